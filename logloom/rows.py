"""Rows of one to eight words, told by a text."""

from logloom.errors import NoRow
from logloom.sorts import sort_of

MOST_WORDS = 8


def words_of(text):
    pieces = text.split(" ")
    for at, piece in enumerate(pieces):
        if sort_of(piece) is None:
            raise NoRow(at)
    # Looked at last: a piece that is no word is told ahead of this, even behind the eighth.
    if len(pieces) > MOST_WORDS:
        raise NoRow(MOST_WORDS)
    return tuple(pieces)
