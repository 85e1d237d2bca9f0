"""Rows pressed into numbers of eight bits by forms, and back."""

from logloom.bits import Reader
from logloom.bits import Writer
from logloom.codes import next_word
from logloom.codes import put_word
from logloom.errors import Spoiled
from logloom.errors import Unknown
from logloom.forms import filled
from logloom.forms import first_writing
from logloom.forms import gaps_of
from logloom.forms import is_gap


def form_wide(forms):
    # A number below 0 would need a bit, too.
    return max(len(forms) - 1, 0).bit_length()


def gap_sorts(form):
    return [part[1] for part in form if is_gap(part)]


def put_gaps(writer, form, row):
    for sort, word in zip(gap_sorts(form), gaps_of(form, row)):
        put_word(writer, sort, word)


def pressed(forms, rows):
    writer = Writer()
    writer.put(len(rows), 8)
    for at, row in enumerate(rows):
        number = first_writing(forms, row)
        if number is None:
            raise Unknown(at)
        writer.put(number, form_wide(forms))
        put_gaps(writer, forms[number], row)
    return writer.told()


def next_row(reader, forms):
    number = reader.bits(form_wide(forms))
    if number >= len(forms):
        raise Spoiled()
    form = forms[number]
    return filled(form, [next_word(reader, sort) for sort in gap_sorts(form)])


def unpressed(forms, numbers):
    reader = Reader(numbers)
    many = reader.bits(8)
    rows = tuple([next_row(reader, forms) for place in range(many)])
    # Bits behind the last row, and a form that is not the first which writes its row, are seen by this alone.
    if pressed(forms, rows) != numbers:
        raise Spoiled()
    return rows
