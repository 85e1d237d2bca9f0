"""Questions as nested tuples, read word by word as the document says them: what tests hold the program's own against."""

from logloom.questions import Ahead, Behind, Both, Either, Not, Row, Times, With

CLASSES = {
    "row": Row, "with": With, "behind": Behind, "ahead": Ahead, "times": Times, "both": Both, "either": Either, "not": Not,
}
WORDS = ("a", "b", "7", "[a,1]", "A/b")


def built(said):
    return CLASSES[said[0]](*[built(part) if isinstance(part, tuple) else part for part in said[1:]])


def spoken(said):
    return " ".join(spoken(part) if isinstance(part, tuple) else str(part) for part in said)


def length(said):
    return len(spoken(said).split(" "))


def gap(entry, number):
    return entry[1][number] if number < len(entry[1]) else None


def same_gap(log, n, m, first, i, second, j):
    if log[n][0] != first or log[m][0] != second:
        return False
    return gap(log[n], i) is not None and gap(log[n], i) == gap(log[m], j)


def rows_of(said, log, n):
    """By which rows it holds at row n, a set; None where it does not."""
    kind, parts = said[0], said[1:]
    if kind == "row":
        return {n} if log[n][0] == parts[0] else None
    if kind == "with":
        return {n} if log[n][0] == parts[0] and gap(log[n], parts[1]) == parts[2] else None
    if kind in ("behind", "ahead"):
        first, i, second, j, reach = parts
        rows = [m for m in range(len(log)) if same_gap(log, n, m, first, i, second, j)]
        if kind == "behind":
            near = [m for m in rows if n < m <= n + reach]
            return {n, near[0]} if near else None
        near = [m for m in rows if n - reach <= m < n]
        return {n, near[-1]} if near else None
    if kind == "times":
        reach, least, inner = parts
        rows = {m for m in range(len(log)) if n - reach < m <= n and rows_of(inner, log, m) is not None}
        return rows if n in rows and len(rows) >= least else None
    if kind == "not":
        return set() if rows_of(parts[0], log, n) is None else None
    one, other = rows_of(parts[0], log, n), rows_of(parts[1], log, n)
    if kind == "either":
        return other if one is None else one
    return None if one is None or other is None else one | other


def told_rows(said, log, n):
    rows = rows_of(said, log, n)
    return None if rows is None else tuple(sorted(rows))


def looks(said):
    """How far it looks back and on."""
    kind, parts = said[0], said[1:]
    if kind in ("row", "with"):
        return 0, 0
    if kind == "behind":
        return 0, parts[4]
    if kind == "ahead":
        return parts[4], 0
    if kind == "times":
        back, on = looks(parts[2])
        return back + parts[0] - 1, on
    sides = [looks(part) for part in parts]
    return max(back for back, on in sides), max(on for back, on in sides)


def said_by_chance(chance, depth, within=False, most=20):
    """A question of few letters, gaps and words, so that it often holds."""
    kinds = ["row", "with", "behind", "ahead"]
    if depth > 0:
        kinds += ["both", "either", "not"] * 2 + ([] if within else ["times"] * 3)
    kind = chance.choice(kinds)
    letter, other, i, j = (chance.randrange(2) for part in range(4))
    if kind == "row":
        return kind, letter
    if kind == "with":
        return kind, letter, i, chance.choice(WORDS[:3])
    if kind in ("behind", "ahead"):
        return kind, letter, i, other, j, chance.randint(1, min(most, 5))
    if kind == "times":
        return kind, chance.randint(1, min(most, 5)), chance.randint(1, 3), said_by_chance(chance, depth - 1, True, most)
    many = 1 if kind == "not" else 2
    return (kind,) + tuple(said_by_chance(chance, depth - 1, within, most) for part in range(many))


def log_by_chance(chance, many):
    entries = []
    for row in range(many):
        gaps = tuple(chance.choice(WORDS[:3]) for number in range(chance.randint(0, 3)))
        entries.append((chance.randrange(3), gaps))
    return tuple(entries)
