"""Forms shown as texts, and read from them."""

from logloom.errors import NoForm
from logloom.forms import is_gap
from logloom.rows import MOST_WORDS
from logloom.sorts import all_sorts
from logloom.sorts import sort_of


def shown_gap(sort):
    return f"<{sort}>"


def shown_form(form):
    return " ".join([shown_gap(part[1]) if is_gap(part) else part[1] for part in form])


def part_of(piece):
    if sort_of(piece) is not None:
        return ("word", piece)
    for sort in all_sorts():
        if piece == shown_gap(sort.word()):
            return ("gap", sort.word())
    return None


def read_form(text):
    parts = [part_of(piece) for piece in text.split(" ")]
    if None in parts:
        raise NoForm(parts.index(None))
    # Looked at last: a piece that is no part is told ahead of this, even behind the eighth.
    if len(parts) > MOST_WORDS:
        raise NoForm(MOST_WORDS)
    return tuple(parts)
