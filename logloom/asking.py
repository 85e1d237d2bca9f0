"""Questions told by texts."""

from logloom.errors import NoQuestion
from logloom.questions import Ahead
from logloom.questions import Behind
from logloom.questions import Both
from logloom.questions import Either
from logloom.questions import Not
from logloom.questions import Row
from logloom.questions import Times
from logloom.questions import With
from logloom.sorts import sort_of

MOST_PIECES = 40
KINDS = {
    "row": ("letter",),
    "with": ("letter", "gap", "word"),
    "behind": ("letter", "gap", "letter", "gap", "count"),
    "ahead": ("letter", "gap", "letter", "gap", "count"),
    "times": ("count", "count", "question"),
    "both": ("question", "question"),
    "either": ("question", "question"),
    "not": ("question",),
}
LEAST = {"letter": 0, "gap": 0, "count": 1}
GREATEST = {"letter": 8, "gap": 7, "count": 20}


def made(word, parts):
    if word == "row":
        return Row(parts[0])
    if word == "with":
        return With(parts[0], parts[1], parts[2])
    if word == "behind":
        return Behind(parts[0], parts[1], parts[2], parts[3], parts[4])
    if word == "ahead":
        return Ahead(parts[0], parts[1], parts[2], parts[3], parts[4])
    if word == "times":
        return Times(parts[0], parts[1], parts[2])
    if word == "both":
        return Both(parts[0], parts[1])
    if word == "either":
        return Either(parts[0], parts[1])
    return Not(parts[0])


def value_of(kind, piece):
    # None where the piece is none of that kind.
    sort = sort_of(piece)
    if kind == "word":
        return None if sort is None else piece
    if sort == "number" and LEAST[kind] <= int(piece) <= GREATEST[kind]:
        return int(piece)
    return None


def piece_at(pieces, at):
    # The number is the same where the pieces end too early and where they are too many.
    if at == len(pieces) or at == MOST_PIECES:
        raise NoQuestion(at)
    return pieces[at]


def part_at(kind, pieces, at, within):
    # Told are the part and the number of the piece behind it.
    if kind == "question":
        return question_at(pieces, at, within)
    value = value_of(kind, piece_at(pieces, at))
    if value is None:
        raise NoQuestion(at)
    return (value, at + 1)


def question_at(pieces, at, within):
    # Within says whether it stands within a times, where no other times may stand.
    word = piece_at(pieces, at)
    if word not in KINDS or (within and word == "times"):
        raise NoQuestion(at)
    parts = []
    behind = at + 1
    for kind in KINDS[word]:
        told = part_at(kind, pieces, behind, within or word == "times")
        parts.append(told[0])
        behind = told[1]
    return (made(word, parts), behind)


def question_of(text):
    pieces = text.split(" ")
    told = question_at(pieces, 0, False)
    if told[1] < len(pieces):
        raise NoQuestion(told[1])
    return told[0]
