"""Rows as texts, and texts as rows."""

from everrows.errors import BadText
from everrows.rows import is_letter, joined

MOST_OPEN = 6


def row_text(row):
    """The text of a row."""
    signs, waiting = [], [row]
    while waiting:
        thing = waiting.pop()
        # A letter is its own text, as the signs are that _spelt tells.
        if isinstance(thing, str):
            signs.append(thing)
        else:
            waiting.extend(_spelt(thing)[::-1])
    return "".join(signs)


def _spelt(row):
    """The list of signs and rows, in order, of which the text of a row that is no letter is made."""
    word, told = row
    if word == "right":
        return ["(", told, ")>"]
    if word == "left":
        return ["<(", told, ")"]
    found = []
    if word == "mix":
        for part in told:
            found.extend([", ", part])
        return ["[", *found[1:], "]"]
    for part in told:
        found.append(" ")
        found.extend(["(", part, ")"] if part[0] == "join" else [part])
    return found[1:]


def read_row(text):
    """The row whose text any value is; raises BadText(place) at the first sign that cannot follow."""
    if not isinstance(text, str):
        raise BadText(0)
    row, at = _read_join(text, 0, 0)
    if at < len(text):
        raise BadText(at)
    return row


def _read_join(text, at, opened):
    """Reads rows with a blank between two, from at on, with so many brackets open: (the row, the place behind it)."""
    row, at, bare = _read_part(text, at, opened)
    rows = [row]
    if bare:
        # A join in round brackets stands in a join: so another part must follow if it is the first one.
        _behind(text, at, " ")
    while text[at:at + 1] == " ":
        row, at, _ = _read_part(text, at + 1, opened)
        rows.append(row)
    return joined(rows), at


def _read_part(text, at, opened):
    """Reads one part of a join: (the row, the place behind it, whether it is a join in round brackets)."""
    sign = text[at:at + 1]
    if is_letter(sign):
        return sign, at + 1, False
    if sign not in ("(", "<", "[") or opened == MOST_OPEN:
        raise BadText(at)
    if sign == "(":
        return _read_round(text, at + 1, opened + 1)
    if sign == "[":
        row, at = _read_mix(text, at + 1, opened + 1)
        return row, at, False
    row, at = _read_join(text, _behind(text, at + 1, "("), opened + 1)
    return ("left", row), _behind(text, at, ")"), False


def _read_round(text, at, opened):
    """Reads on behind a round bracket: only what follows when it is closed tells a right row from a join."""
    row, at = _read_join(text, at, opened)
    at = _behind(text, at, ")")
    if text[at:at + 1] == ">":
        return ("right", row), at + 1, False
    if row[0] != "join":
        raise BadText(at)
    return row, at, True


def _read_mix(text, at, opened):
    """Reads on behind the bracket that opens a mix: (the mix, the place behind it)."""
    row, at = _read_join(text, at, opened)
    rows = [row]
    while text[at:at + 1] == ",":
        row, at = _read_join(text, _behind(text, at + 1, " "), opened)
        rows.append(row)
    return ("mix", tuple(rows)), _behind(text, at, "]")


def _behind(text, at, sign):
    """The place behind a sign that must stand at a place."""
    if text[at:at + 1] != sign:
        raise BadText(at)
    return at + 1
