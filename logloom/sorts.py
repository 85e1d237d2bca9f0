"""The four sorts of words: number, name, list and mark."""

FIGURES = "0123456789"
SMALL_LETTERS = "abcdefghijklmnopqrstuvwxyz"
NAME_SIGNS = "abcdefghijklmnopqrstuvwxyz0123456789"
MARK_SIGNS = "abcdefghijklmnopqrstuvwxyzABCDEFGHIJKLMNOPQRSTUVWXYZ0123456789.:-_/="
MOST_FIGURES = 9
MOST_SIGNS = 12
MOST_ITEMS = 4


def made_of(signs, text):
    return all([sign in signs for sign in text])


class Sort:
    def word(self):
        return "none"

    def takes(self, text):
        return False


class Number(Sort):
    def word(self):
        return "number"

    def takes(self, text):
        if not 1 <= len(text) <= MOST_FIGURES:
            return False
        return made_of(FIGURES, text) and (text == "0" or text[0] != "0")


class Name(Sort):
    def word(self):
        return "name"

    def takes(self, text):
        if not 1 <= len(text) <= MOST_SIGNS:
            return False
        return text[0] in SMALL_LETTERS and made_of(NAME_SIGNS, text)


class Items(Sort):
    def word(self):
        return "list"

    def takes(self, text):
        if not (text.startswith("[") and text.endswith("]")):
            return False
        # The empty list is told by itself: parting nothing at the commas would give one empty item.
        if text == "[]":
            return True
        pieces = text[1:-1].split(",")
        return len(pieces) <= MOST_ITEMS and all([is_item(piece) for piece in pieces])


class Mark(Sort):
    def word(self):
        return "mark"

    def takes(self, text):
        if not 1 <= len(text) <= MOST_SIGNS:
            return False
        return made_of(MARK_SIGNS, text) and not is_item(text)


def is_item(text):
    return Number().takes(text) or Name().takes(text)


def all_sorts():
    return (Number(), Name(), Items(), Mark())


def sort_of(text):
    for sort in all_sorts():
        if sort.takes(text):
            return sort.word()
    return None
