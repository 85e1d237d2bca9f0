"""Machines joined by a word: both, either, less, unlike."""

from logloom.least import least


def joined_truth(word, one, other):
    if word == "both":
        return one and other
    if word == "either":
        return one or other
    if word == "less":
        return one and not other
    return one != other


def joined(word, one, other):
    pairs = [(0, 0)]
    numbers = {(0, 0): 0}
    rooms = []
    # Only pairs of rooms to which one run leads are met.
    while len(rooms) < len(pairs):
        pair = pairs[len(rooms)]
        here = one[1][pair[0]]
        there = other[1][pair[1]]
        behind = list(zip(here[1], there[1]))
        for met in behind:
            if met not in numbers:
                numbers[met] = len(pairs)
                pairs.append(met)
        rooms.append((joined_truth(word, here[0], there[0]), tuple([numbers[met] for met in behind])))
    return least((one[0], tuple(rooms)))
