"""Whether rows are one and the same, place by place and letter by letter."""

from everrows.common import each_told, inner_first, is_number
from everrows.levels import level_behind, level_of
from everrows.lumps import is_level_letter, letter_text, letters_of, words_of
from everrows.rows import joined, parts_of, row_made


def unfolded(thing):
    """A row for which a letter of levels, or a row of levels, stands."""
    return each_told(thing, _parts_of, _unfolded_over)[-1]


def _parts_of(thing):
    """The tuple of all of which a letter of levels or a row of levels is told."""
    return letters_of(thing) if thing[0] in ("lump", "mixture") else parts_of(thing)


def _unfolded_over(thing, rows):
    if isinstance(thing, str):
        return thing
    if thing[0] != "lump":
        return row_made("mix" if thing[0] == "mixture" else thing[0], rows)
    left, middle, right = words_of(thing, rows)
    ahead = [("left", joined(left))] if left else []
    behind = [("right", joined(right))] if right else []
    return joined([*ahead, *middle, *behind])


def is_form(value):
    """Whether any value is the form of some row."""
    if not is_level_letter(value):
        return False
    # All letters of the levels stand in the form: so what is none is known before its levels grow.
    known = {letter_text(letter): True for letter in inner_first(value, letters_of)}
    level = level_of(unfolded(value))
    while all(text in known for text in level[1]):
        if isinstance(level[0], str):
            return level[0] == letter_text(value)
        level = level_behind(level)
    return False


def are_one(one, other):
    """Whether two rows are one."""
    return compare(one, other)[0] == "one"


def compare(one, other):
    """("one", form), or ("differ", k, letter): the first unlike level, and the least letter that just one has there."""
    k, mine, others, letters = 0, level_of(one), level_of(other), {}
    while mine is not None or others is not None:
        letters, there = _letters_in(mine), _letters_in(others)
        unlike = [text for text in (*letters, *there) if (text in letters) != (text in there)]
        if unlike:
            text = min(unlike)
            return "differ", k, letters[text] if text in letters else there[text]
        # Where only one of the two had a level, its letters were unlike none: so both have one here.
        k, mine, others = k + 1, level_behind(mine), level_behind(others)
    return "one", letters[min(letters)]


def _letters_in(level):
    """The dict from texts to letters of a level, {} if there is none."""
    return {} if level is None else level[1]


def judge_compare(one, other, value):
    """None if any value is what compare returns, else the first fault."""
    if not _is_told(value):
        return ("form",)
    right = compare(one, other)
    if value[0] != right[0]:
        return ("word",)
    if value[1:-1] != right[1:-1]:
        return "level", right[1]
    return None if value[-1] == right[-1] else ("letter", right[-1])


def _is_told(value):
    """Whether any value is ("one", letter of levels) or ("differ", an integer from 0 on, letter of levels)."""
    if not isinstance(value, tuple) or len(value) not in (2, 3) or not is_level_letter(value[-1]):
        return False
    if len(value) == 2:
        return value[0] == "one"
    return value[0] == "differ" and is_number(value[1]) and value[1] >= 0
