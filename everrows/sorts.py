"""Sorts of rows, by the dealings that they need, and what rows of a sort are answered."""

from everrows.agreeing import are_alike, is_lot_of_pairs, says_of
from everrows.closed import dealings_of, first_out
from everrows.common import inner_first, is_paper
from everrows.growing import WORDS, steps_by_dealings
from everrows.lots import is_lot
from everrows.pairs import letter_pairs, pair_dealings, pair_of, pairs_dealt
from everrows.reached import answers_dealt
from everrows.rows import parts_of
from everrows.steps import is_steps, lacking_letter, step_answers
from everrows.tables import count_of

# The words of the dealings of each sort, the sorts in their order.
SORTS = {
    "finite": ("join",),
    "right": ("join", "right"),
    "left": ("join", "left"),
    "scattered": ("join", "right", "left"),
    "all": ("join", "right", "left", "mix"),
}


def sorts_of_row(row):
    """The list of the sorts, in order, of which a row is."""
    parts = inner_first(row, parts_of)
    return [sort for sort in SORTS if _first_of_other_word(parts, sort) is None]


def _first_of_other_word(entries, sort):
    """The least number of an entry, letters counted, whose word is none of a sort's dealings; None if there is none."""
    for k, entry in enumerate(entries):
        if not isinstance(entry, str) and entry[0] not in SORTS[sort]:
            return k
    return None


def by_sort(reader, sort, s):
    """("row", steps) of the sort with the answer s, or ("lot", lot) without s that no dealing of the sort leaves."""
    found = _reached_by(reader, sort)
    return ("row", found[s]) if s in found else ("lot", tuple(sorted(found)))


def _reached_by(reader, sort):
    """The dict that has steps of a sort for each answer that some row of the sort has."""
    return steps_by_dealings(reader[1], lambda lot: _answer_dealings(reader, sort, lot), answers_dealt)


def _answer_dealings(reader, sort, lot):
    return _of_sort(sort, dealings_of(reader[0], lot))


def _of_sort(sort, dealings):
    """Those of pairs (dealing, what comes of it) whose dealings are a sort's."""
    return [(dealing, thing) for dealing, thing in dealings if WORDS[dealing[0]] in SORTS[sort]]


def judge_by_sort(reader, sort, s, value):
    """None if any value is what by_sort may return, else the first fault."""
    if is_paper(value, "row") and is_steps(value[1]):
        fault = _fault_of_steps(reader, sort, value[1])
        if fault is not None:
            return fault
        t = step_answers(reader, value[1])[-1]
        return None if t == s else ("answer", t)
    if is_paper(value, "lot") and is_lot(value[1], count_of(reader[0])):
        return _judged_lot(reader, sort, s, value[1])
    return ("form",)


def _fault_of_steps(reader, sort, steps):
    """The first fault of steps that are no steps of a sort, of a reader's letters; None if they are."""
    letter = lacking_letter(reader, steps)
    if letter is not None:
        return "letter", letter
    k = _first_of_other_word(steps, sort)
    return None if k is None else ("dealing", k)


def _judged_lot(reader, sort, s, lot):
    for letter, t in reader[1]:
        if t not in lot:
            return "lacks", letter
    if s in lot:
        return ("asked",)
    dealing = first_out(_answer_dealings(reader, sort, lot), lot)
    return None if dealing is None else ("out", dealing)


def sorts_of(reader):
    """The dict that has for each answer that some row has the list of the sorts, in order, of rows with this answer."""
    found = {}
    for sort in SORTS:
        for s in _reached_by(reader, sort):
            found.setdefault(s, []).append(sort)
    return {s: found[s] for s in sorted(found)}


def same_by_sort(one, other, sort):
    """("agree", pairs), alike, that no dealing of the sort leaves, or ("parts", steps): one says yes to the row."""
    letters = letter_pairs(one, other)
    found = steps_by_dealings(letters, lambda pairs: _pair_dealings(one, other, sort, pairs), pairs_dealt)
    for pair in found:
        if not are_alike(says_of(one, other, pair)):
            return "parts", found[pair]
    return "agree", tuple(sorted(found))


def _pair_dealings(one, other, sort, pairs):
    return _of_sort(sort, pair_dealings(one, other, pairs))


def judge_same(one, other, sort, value):
    """None if any value is what same_by_sort may return, else the first fault."""
    if is_paper(value, "parts") and is_steps(value[1]):
        fault = _fault_of_steps(one, sort, value[1])
        if fault is not None:
            return fault
        pair = pair_of(one, other, value[1])
        return ("pair", pair) if are_alike(says_of(one, other, pair)) else None
    if is_paper(value, "agree") and is_lot_of_pairs(one, other, value[1]):
        return _judged_pairs(one, other, sort, value[1])
    return ("form",)


def _judged_pairs(one, other, sort, pairs):
    for letter, pair in letter_pairs(one, other):
        if pair not in pairs:
            return "lacks", letter
    for pair in pairs:
        if not are_alike(says_of(one, other, pair)):
            return "pair", pair
    return first_out(_pair_dealings(one, other, sort, pairs), pairs)
