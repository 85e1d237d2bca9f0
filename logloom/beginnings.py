"""Runs with which good and bad runs begin, and those by which two of them are apart."""

from logloom.machines import run_order


def beginnings(good, bad):
    met = {(): True}
    for run in good + bad:
        for length in range(len(run) + 1):
            met[run[:length]] = True
    return tuple(sorted(list(met), key=run_order))


def tails_behind(head, runs):
    return [run[len(head):] for run in runs if run[:len(head)] == head]


def apart(good, bad, one, other):
    found = []
    for first, second in ((one, other), (other, one)):
        found.extend([tail for tail in tails_behind(first, good) if second + tail in bad])
    return min(found, key=run_order, default=None)
