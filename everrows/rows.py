"""Rows: letters, joins, endless repetitions to the right and to the left, and mixes."""

from everrows.common import depth_within, inner_first, is_told_throughout


def is_letter(value):
    """Whether any value is a letter: a string of one sign, from a to z."""
    return isinstance(value, str) and len(value) == 1 and "a" <= value <= "z"


def is_row(value):
    """Whether any value is a row."""
    return is_told_throughout(value, _parts_told)


def _parts_told(value):
    """What must be rows if the value shall be one, or None if it is no row, whatever they are."""
    if is_letter(value):
        return ()
    if not isinstance(value, tuple) or len(value) != 2:
        return None
    word, told = value
    if word in ("right", "left"):
        return (told,)
    if word not in ("join", "mix") or not isinstance(told, tuple):
        return None
    least = 2 if word == "join" else 1
    return told if len(told) >= least else None


def parts_of(row):
    """The tuple of the rows of which a row is told, () of a letter."""
    if isinstance(row, str):
        return ()
    word, told = row
    return (told,) if word in ("right", "left") else told


def row_made(word, rows):
    """The row of a word and a list of the rows of which it is told."""
    return word, rows[0] if word in ("right", "left") else tuple(rows)


def size_of(row):
    """How many letters and how many joins, rights, lefts and mixes stand in a row."""
    return len(inner_first(row, parts_of))


def depth_of(row):
    """How deep a row is: 0 for a letter, else 1 more than its deepest part."""
    return depth_within(row, parts_of)


def row_letters(row):
    """The ascending list of the letters of a row, each once."""
    return sorted({part for part in inner_first(row, parts_of) if isinstance(part, str)})


def joined(rows):
    """One row behind another; one row alone stays as it is."""
    return rows[0] if len(rows) == 1 else ("join", tuple(rows))


def copies(row, many):
    """So many of a row, one behind another."""
    return joined([row] * many)
