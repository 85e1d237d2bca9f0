"""Words put as bits, each sort in its own way, and read again."""

from logloom.errors import Spoiled
from logloom.sorts import MARK_SIGNS
from logloom.sorts import NAME_SIGNS
from logloom.sorts import sort_of

ITEM_SORTS = ("number", "name")


def put_number(writer, number):
    wide = number.bit_length()
    writer.put(wide, 5)
    writer.put(number, wide)


def next_number(reader):
    wide = reader.bits(5)
    number = reader.bits(wide)
    if number.bit_length() != wide:
        raise Spoiled()
    return str(number)


def put_signs(writer, signs, wide, word):
    writer.put(len(word), 4)
    for sign in word:
        writer.put(signs.index(sign), wide)


def next_signs(reader, signs, wide):
    word = ""
    many = reader.bits(4)
    for place in range(many):
        number = reader.bits(wide)
        if number >= len(signs):
            raise Spoiled()
        word = word + signs[number]
    return word


def put_items(writer, word):
    pieces = [] if word == "[]" else word[1:-1].split(",")
    writer.put(len(pieces), 3)
    for piece in pieces:
        sort = sort_of(piece)
        writer.put(ITEM_SORTS.index(sort), 1)
        put_word(writer, sort, piece)


def next_items(reader):
    pieces = []
    many = reader.bits(3)
    for place in range(many):
        sort = ITEM_SORTS[reader.bits(1)]
        pieces.append(next_word(reader, sort))
    inner = ",".join(pieces)
    return f"[{inner}]"


def put_word(writer, sort, word):
    if sort == "number":
        put_number(writer, int(word))
    elif sort == "name":
        put_signs(writer, NAME_SIGNS, 6, word)
    elif sort == "mark":
        put_signs(writer, MARK_SIGNS, 7, word)
    else:
        put_items(writer, word)


def text_read(reader, sort):
    if sort == "number":
        return next_number(reader)
    if sort == "name":
        return next_signs(reader, NAME_SIGNS, 6)
    if sort == "mark":
        return next_signs(reader, MARK_SIGNS, 7)
    return next_items(reader)


def next_word(reader, sort):
    # Bits may also tell a text that is no word, or one of another sort: none is put so.
    text = text_read(reader, sort)
    if sort_of(text) != sort:
        raise Spoiled()
    return text
