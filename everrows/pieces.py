"""Beginnings, ends and pieces of rows: how they are answered, and where they stand."""

from everrows.common import is_paper
from everrows.cuts import is_of_reader
from everrows.lots import are_answers, ascend
from everrows.one import are_one
from everrows.piecing import pieces_weighed
from everrows.readers import answer
from everrows.rows import is_row
from everrows.sides import laid_of
from everrows.tables import count_of
from everrows.weighed import answer_scale


def beginnings(reader, row):
    """The ascending list of the answers of the beginnings of a row."""
    return sorted(_told(reader, row, 0))


def ends(reader, row):
    """The ascending list of the answers of the ends of a row."""
    return sorted(_told(reader, row, 1))


def pieces(reader, row):
    """The ascending list of the answers of the pieces of a row."""
    return sorted(_told(reader, row, 2))


def _told(reader, row, which):
    """The dict that has (u, piece, v) for each answer of beginnings (0), ends (1) or pieces (2)."""
    triple = pieces_weighed(answer_scale(reader), row)
    return {s: (u, piece, v) for u, (s, piece), v in triple[which]}


def has_piece(reader, row, s):
    """(u, piece, v), the piece with the answer s, u ahead and v behind it, or None there; None if there is no such."""
    return _told(reader, row, 2).get(s)


def judge_piece(reader, row, s, value):
    """None if any value is what has_piece may return, else the first fault."""
    if value is None:
        return ("there",) if s in pieces(reader, row) else None
    if not _is_piece(reader, value):
        return ("form",)
    found = answer(reader, value[1])
    if found != s:
        return "answer", found
    return _judged_rows(row, value)


def _is_piece(reader, value):
    """Whether any value is a tuple of three, a row of the reader's letters between two such or None."""
    if not isinstance(value, tuple) or len(value) != 3 or value[1] is None:
        return False
    return all(part is None or is_row(part) and is_of_reader(reader, part) for part in value)


def _judged_rows(row, value):
    """The fault of what stands ahead, a piece, and what stands behind, if joined they are not one with a row."""
    return None if are_one(laid_of(value), row) else ("row",)


def all_pieces(reader, row):
    """("all", answers) of all pieces, if each is in yes, else ("not", (u, piece, v)), the piece's answer not in yes."""
    found = _told(reader, row, 2)
    for s in sorted(found):
        if s not in reader[2]:
            return "not", found[s]
    return "all", tuple(sorted(found))


def judge_all_pieces(reader, row, value):
    """None if any value is what all_pieces may return, else the first fault."""
    if is_paper(value, "all") and are_answers(value[1], count_of(reader[0])) and ascend(value[1]):
        return _judged_answers(reader, pieces(reader, row), value[1])
    if not is_paper(value, "not") or not _is_piece(reader, value[1]):
        return ("form",)
    found = answer(reader, value[1][1])
    return ("yes", found) if found in reader[2] else _judged_rows(row, value[1])


def _judged_answers(reader, right, answers):
    for word, wrong in (
        ("lacks", [s for s in right if s not in answers]),
        ("spare", [s for s in answers if s not in right]),
        ("yes", [s for s in answers if s not in reader[2]]),
    ):
        if wrong:
            return word, wrong[0]
    return None


def pieces_within(reader, one, other):
    """("within",) if each answer of a piece of one is that of a piece of other, else ("parts", s), the least other."""
    known = pieces(reader, other)
    for s in pieces(reader, one):
        if s not in known:
            return "parts", s
    return ("within",)


def common_pieces(reader, one, other):
    """The ascending list of the answers that pieces of both rows have."""
    known = pieces(reader, other)
    return [s for s in pieces(reader, one) if s in known]
