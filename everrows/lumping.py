"""How what is near in a row is lumped, letters of levels being told by their texts.

A row is gone through from the inside outwards, as a list of items that stand one behind another: lumps, of which the
first and the last one may still grow together with what comes to stand beside the row, and rows that cannot grow.
"""

from everrows.common import each_told
from everrows.lumps import lump_of
from everrows.rows import joined, parts_of


def lumped_texts(row):
    """A row of texts with each lump in one place, a text that is near to no other one as it is."""
    return _row_of(each_told(row, parts_of, _items_over)[-1])


def _row_of(items):
    """The row of a list of items."""
    return joined([lump_of(item[1], item[2], item[3]) if item[0] == "lump" else item for item in items])


def _items_over(part, made):
    """The list of items of a part, made being the lists of those of which it is told."""
    if isinstance(part, str):
        return [("lump", (), (part,), ())]
    if part[0] == "mix":
        return [("mix", tuple([_row_of(items) for items in made]))]
    if part[0] == "right":
        return _rightwards(made[0])
    if part[0] == "left":
        return _leftwards(made[0])
    found = made[0]
    for items in made[1:]:
        found = _beside(found, items)
    return found


def _begins(items):
    """Whether there is a first place."""
    return items[0][0] == "lump" and items[0][1] == ()


def _ends(items):
    """Whether there is a last place."""
    return items[-1][0] == "lump" and items[-1][3] == ()


def _beside(one, other):
    """Two lists of items one behind the other: a last and a first place are near."""
    if not one or not other or not _ends(one) or not _begins(other):
        return [*one, *other]
    _, left, middle, _ = one[-1]
    _, _, more, right = other[0]
    return [*one[:-1], ("lump", left, middle + more, right), *other[1:]]


def _rightwards(items):
    """The items of endlessly many copies to the right: all but the first lump comes again and again with it behind."""
    if len(items) == 1 and _begins(items) and _ends(items):
        return [("lump", (), (), items[0][2])]
    if _begins(items):
        return [items[0], ("right", _row_of(_beside(items[1:], items[:1])))]
    return [("right", _row_of(items))]


def _leftwards(items):
    """The items of endlessly many copies to the left, likewise."""
    if len(items) == 1 and _begins(items) and _ends(items):
        return [("lump", items[0][2], (), ())]
    if _ends(items):
        return [("left", _row_of(_beside(items[-1:], items[:-1]))), items[-1]]
    return [("left", _row_of(items))]
