"""Whether two readers of the same letters agree, one is within the other, or they never both say yes."""

from everrows.common import is_paper
from everrows.lots import ascend, is_answer
from everrows.pairs import leads_out, letter_pairs, pair_of, pairs_reached
from everrows.steps import is_steps, lacking_letter
from everrows.tables import count_of


def agree(one, other):
    """("agree", pairs), a closed lot of alike pairs, or ("parts", steps) of a row to which just one says yes."""
    return _found(one, other, "agree", are_alike)


def within(one, other):
    """("within", pairs), a closed lot of pairs, or ("parts", steps) of a row to which one says yes, other no."""
    return _found(one, other, "within", _follows)


def disjoint(one, other):
    """("disjoint", pairs), a closed lot of pairs, or ("parts", steps) of a row to which both say yes."""
    return _found(one, other, "disjoint", _is_not_both)


def judge_agree(one, other, value):
    """None if any value is what agree may return, else the first fault."""
    return _judged(one, other, value, "agree", are_alike)


def judge_within(one, other, value):
    """None if any value is what within may return, else the first fault."""
    return _judged(one, other, value, "within", _follows)


def judge_disjoint(one, other, value):
    """None if any value is what disjoint may return, else the first fault."""
    return _judged(one, other, value, "disjoint", _is_not_both)


def says_of(one, other, pair):
    """The pair of whether one says yes to a row with this pair of answers, and whether other does."""
    return pair[0] in one[2], pair[1] in other[2]


def are_alike(says):
    """Whether both say the same."""
    return says[0] == says[1]


def _follows(says):
    return says[1] or not says[0]


def _is_not_both(says):
    return not (says[0] and says[1])


def _found(one, other, word, needed):
    found = pairs_reached(one, other)
    for pair in found:
        if not needed(says_of(one, other, pair)):
            return "parts", found[pair]
    return word, tuple(sorted(found))


def _judged(one, other, value, word, needed):
    if is_paper(value, "parts") and is_steps(value[1]):
        return _judged_steps(one, other, value[1], needed)
    if is_paper(value, word) and is_lot_of_pairs(one, other, value[1]):
        return _judged_pairs(one, other, value[1], needed)
    return ("form",)


def is_lot_of_pairs(one, other, value):
    """Whether any value is a lot of pairs of answers of two readers."""
    if not isinstance(value, tuple) or len(value) == 0:
        return False
    return all(_is_pair(one, other, pair) for pair in value) and ascend(value)


def _is_pair(one, other, value):
    if not isinstance(value, tuple) or len(value) != 2:
        return False
    return is_answer(value[0], count_of(one[0])) and is_answer(value[1], count_of(other[0]))


def _judged_steps(one, other, steps, needed):
    letter = lacking_letter(one, steps)
    if letter is not None:
        return "letter", letter
    pair = pair_of(one, other, steps)
    return ("pair", pair) if needed(says_of(one, other, pair)) else None


def _judged_pairs(one, other, pairs, needed):
    for letter, pair in letter_pairs(one, other):
        if pair not in pairs:
            return "lacks", letter
    for pair in pairs:
        if not needed(says_of(one, other, pair)):
            return "pair", pair
    return leads_out(one, other, pairs)
