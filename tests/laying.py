"""Bits laid out as texts of 0 and 1, word by word as the document says them: what tests hold pressed rows against."""

from logloom.forms import writes

NAME_SIGNS = "abcdefghijklmnopqrstuvwxyz" + "0123456789"
MARK_SIGNS = "abcdefghijklmnopqrstuvwxyz" + "ABCDEFGHIJKLMNOPQRSTUVWXYZ" + "0123456789" + ".:-_/="
WORDS = {
    "number": ("0", "1", "2", "7", "8", "255", "999999999"),
    "name": ("a", "z", "file", "a0", "z9", "abcdefghijkl"),
    "mark": ("A", "=", "a.b", "0a", "00", "1234567890", "a:b-c_d/e=F"),
    "list": ("[]", "[0]", "[a]", "[a,1]", "[1,b,999999999,abcdefghijkl]"),
}


def laid(number, wide):
    return format(number, "b").zfill(wide) if wide else ""


def eights(bits):
    """The numbers of each eight bits, noughts behind."""
    bits += "0" * (-len(bits) % 8)
    return tuple(int(bits[start:start + 8], 2) for start in range(0, len(bits), 8))


def word_bits(sort, word):
    if sort == "number":
        needed = format(int(word), "b") if int(word) else ""
        return laid(len(needed), 5) + needed
    if sort == "name":
        return laid(len(word), 4) + "".join(laid(NAME_SIGNS.index(sign), 6) for sign in word)
    if sort == "mark":
        return laid(len(word), 4) + "".join(laid(MARK_SIGNS.index(sign), 7) for sign in word)
    items = word[1:-1].split(",") if word != "[]" else []
    bits = laid(len(items), 3)
    for item in items:
        kind = "number" if item[0].isdigit() else "name"
        bits += {"number": "0", "name": "1"}[kind] + word_bits(kind, item)
    return bits


def form_wide(many):
    return len(format(many - 1, "b")) if many > 1 else 0


def row_bits(forms, row):
    number = [writes(form, row) for form in forms].index(True)
    gaps = [(part[1], word) for part, word in zip(forms[number], row) if part[0] == "gap"]
    return laid(number, form_wide(len(forms))) + "".join(word_bits(sort, word) for sort, word in gaps)


def pressed_by_the_document(forms, rows):
    return eights(laid(len(rows), 8) + "".join(row_bits(forms, row) for row in rows))


def some_forms(chance, many):
    """Forms of one to three parts, perhaps alike, perhaps such that two of them write the same row."""
    forms = []
    for form in range(many):
        parts = []
        for part in range(chance.randint(1, 3)):
            sort = chance.choice(sorted(WORDS))
            parts.append(("gap", sort) if chance.random() < 0.7 else ("word", chance.choice(WORDS[sort])))
        forms.append(tuple(parts))
    return tuple(forms)


def some_rows_by(chance, forms, many):
    rows = []
    for row in range(many if forms else 0):
        form = chance.choice(forms)
        rows.append(tuple(chance.choice(WORDS[held]) if kind == "gap" else held for kind, held in form))
    return tuple(rows)
