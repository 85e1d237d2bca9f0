"""Point 2: what may be told, for the tests to hold answers against."""


def is_plain(value):
    if type(value) is tuple:
        return all(is_plain(part) for part in value)
    return value is None or type(value) in (int, str, bool)
