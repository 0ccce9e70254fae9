"""How what is mixed all through is gathered in a row without near places, letters of levels being told by their texts.

A row is gone through from the inside outwards, as a list of items that stand one behind another: texts, mixtures, which
may still grow together with what comes to stand beside the row, and rows that cannot grow. A mixture grows together
with the same one behind it, also over one place between the two, if this has one of its letters.
"""

from everrows.common import each_told
from everrows.lots import lot_of
from everrows.rows import joined, parts_of


def blended_texts(row):
    """A row of texts, no two of whose places are near, with each greatest mixture in one place."""
    return joined(each_told(row, parts_of, _items_over)[-1])


def _items_over(part, made):
    """The list of items of a part, made being the lists of those of which it is told."""
    if isinstance(part, str):
        return [part]
    if part[0] == "mix":
        return _mixed(made)
    if part[0] == "join":
        return _grown([item for items in made for item in items])
    if part[0] == "right":
        ahead, again = _unrolled(made[0])
        return [*ahead, ("right", joined(again))] if again else ahead
    # A left row is a right one for those who come from behind.
    behind, again = _unrolled(made[0][::-1])
    return [("left", joined(again[::-1])), *behind[::-1]] if again else behind[::-1]


def _is_mixture(item):
    return item[0] == "mixture"


def _grown(items):
    """The items, mixtures grown together."""
    found = []
    for item in items:
        if _is_mixture(item) and found and found[-1] == item:
            continue
        if _is_mixture(item) and len(found) > 1 and found[-2] == item and found[-1] in item[1]:
            found.pop()
        else:
            found.append(item)
    return found


def _unrolled(items):
    """The items of endlessly many copies to the right: those that stand ahead, and those that come again and again.

    So many stand ahead that a mixture at the beginning is seen, also behind a place.
    """
    ahead = items[:1] if isinstance(items[0], str) else []
    again = [*items[len(ahead):], *ahead]
    if not _is_mixture(again[0]):
        return ahead, again
    mixture, *rest = _grown([*again, again[0]])
    return [*ahead, mixture], rest


def _mixed(made):
    """The items of a mix: one mixture if the same letters stand in it all through, else a row that cannot grow."""
    items = [item for part in made for item in part]
    mixtures = [item for item in items if _is_mixture(item)]
    mixture = mixtures[0] if mixtures else ("mixture", lot_of([item for item in items if isinstance(item, str)]))
    if all(item == mixture or item in mixture[1] for item in items):
        return [mixture]
    return [("mix", tuple([joined(part) for part in made]))]
