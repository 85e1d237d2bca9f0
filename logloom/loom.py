"""Looms: forms read off from texts, a machine taught by logs, and what they say of other texts."""

from logloom.asking import question_of
from logloom.errors import NoRow
from logloom.errors import Unknown
from logloom.errors import Untaught
from logloom.forms import first_writing
from logloom.forms import gaps_of
from logloom.groups import forms_of
from logloom.odd import odd
from logloom.press import pressed
from logloom.press import unpressed
from logloom.reading import read_off
from logloom.rows import words_of
from logloom.walking import walked

STRANGE = 8


def row_of(text):
    # None where the text tells no row.
    try:
        return words_of(text)
    except NoRow:
        return None


def rows_of(texts):
    rows = [row_of(text) for text in texts]
    if None in rows:
        raise Unknown(rows.index(None))
    return tuple(rows)


def entry_of(forms, text):
    row = row_of(text)
    letter = None if row is None else first_writing(forms, row)
    return (STRANGE, ()) if letter is None else (letter, gaps_of(forms[letter], row))


def first_strange(letters):
    return letters.index(STRANGE) if STRANGE in letters else None


class Loom:
    def __init__(self, texts, most=2):
        self.known = forms_of(rows_of(texts), most)
        self.taught = None

    def forms(self):
        return self.known

    def letter(self, text):
        return entry_of(self.known, text)[0]

    def log(self, texts):
        return tuple([entry_of(self.known, text) for text in texts])

    def letters(self, texts):
        return tuple([self.letter(text) for text in texts])

    def run_of(self, texts):
        letters = self.letters(texts)
        at = first_strange(letters)
        if at is not None:
            raise Unknown(at)
        return letters

    def teach(self, good, bad, most=3):
        goods = tuple([self.run_of(texts) for texts in good])
        bads = tuple([self.run_of(texts) for texts in bad])
        self.taught = read_off(len(self.known), goods, bads, most)

    def machine(self):
        return self.taught

    def odd(self, texts):
        letters = self.letters(texts)
        at = first_strange(letters)
        if at is not None:
            return ("row", at)
        if self.taught is None:
            raise Untaught()
        stretch = odd(self.taught, letters)
        return None if stretch is None else ("stretch",) + stretch

    def asked(self, question, texts):
        return walked(question_of(question), self.log(texts))

    def pressed(self, texts):
        # Refused here, ahead of the pressing: a text that tells no row counts in the same order as one without a form.
        self.run_of(texts)
        return pressed(self.known, rows_of(texts))

    def unpressed(self, numbers):
        return tuple([" ".join(row) for row in unpressed(self.known, numbers)])
