"""How beginnings, ends and pieces of a row are found from those of its parts.

A piece is told as (u, piece, v), the piece weighed, u and v the rows ahead of it and behind it, None where nothing is.
A TRIPLE is (beginnings, ends, pieces), three lists of these, in each of them every value once.
"""

from everrows.common import each_told
from everrows.rows import parts_of
from everrows.sides import laid_of
from everrows.weighed import value_of, weighed, weighed_together


def pieces_weighed(scale, row):
    """The triple of a row."""
    return each_told(row, parts_of, lambda part, made: _triple_over(scale, part, made))[-1][1]


def _triple_over(scale, part, made):
    """(the part, weighed, its triple), made being such pairs of the rows of which it is told."""
    whole = weighed(scale, part, [thing for thing, _ in made])
    if isinstance(part, str):
        alone = [(None, whole, None)]
        return whole, (alone, alone, alone)
    if part[0] == "mix":
        return whole, _each_once(scale, _triple_of_mix(whole, [triple for _, triple in made]))
    x, triple = made[0]
    if part[0] != "join":
        tell = _triple_of_right if part[0] == "right" else _triple_of_left
        return whole, _each_once(scale, tell(whole, x, triple, scale[2]))
    for y, more in made[1:]:
        triple = _each_once(scale, _triple_of_two(x, triple, y, more))
        x = weighed_together(scale, [x, y])
    return whole, triple


# Each of these tells three lists of (the list of rows ahead, that of the weighed rows of a piece, that of rows behind).

def _triple_of_two(x, triple, y, more):
    begun, ended, inside = triple
    begun_too, ended_too, inside_too = more
    return (
        [([], [b], [v, y[1]]) for _, b, v in begun] + [([], [x, b], [v]) for _, b, v in begun_too],
        [([x[1], u], [e], []) for u, e, _ in ended_too] + [([u], [e, y], []) for u, e, _ in ended],
        [([u], [i], [v, y[1]]) for u, i, v in inside] + [([x[1], u], [i], [v]) for u, i, v in inside_too]
        + [([u], [e, b], [v]) for u, e, _ in ended for _, b, v in begun_too],
    )


def _triple_of_right(whole, x, triple, many):
    begun, ended, inside = triple
    behind = whole[1]
    ends = [([], [whole], [])] + [([u], [e, whole], []) for u, e, _ in ended]
    longer = [([u], [e] + [x] * k + [b], [v, behind])
              for k in range(many + 1) for u, e, _ in ended for _, b, v in begun]
    return (
        [([], [whole], [])] + [([], [x] * k + [b], [v, behind]) for k in range(many + 1) for _, b, v in begun],
        ends,
        [([u], [i], [v, behind]) for u, i, v in inside] + longer + ends,
    )


def _triple_of_left(whole, x, triple, many):
    begun, ended, inside = triple
    ahead = whole[1]
    beginnings = [([], [whole], [])] + [([], [whole, b], [v]) for _, b, v in begun]
    longer = [([ahead, u], [e] + [x] * k + [b], [v])
              for k in range(many + 1) for u, e, _ in ended for _, b, v in begun]
    return (
        beginnings,
        [([], [whole], [])] + [([ahead, u], [e] + [x] * k, []) for k in range(many + 1) for u, e, _ in ended],
        [([ahead, u], [i], [v]) for u, i, v in inside] + longer + beginnings,
    )


def _triple_of_mix(whole, triples):
    mix = whole[1]
    begun = [(b, v) for triple in triples for _, b, v in triple[0]]
    ended = [(u, e) for triple in triples for u, e, _ in triple[1]]
    beginnings = [([], [whole], [])] + [([], [whole, b], [v, mix]) for b, v in begun]
    ends = [([], [whole], [])] + [([mix, u], [e, whole], []) for u, e in ended]
    return (
        beginnings,
        ends,
        beginnings + ends + [([mix, u], [i], [v, mix]) for triple in triples for u, i, v in triple[2]]
        + [([mix, u], [e, whole, b], [v, mix]) for u, e in ended for b, v in begun],
    )


def _each_once(scale, triple):
    """A triple of what three lists tell, each value once, rows laid."""
    return tuple([_once(scale, told) for told in triple])


def _once(scale, told):
    found = {}
    for ahead, things, behind in told:
        value = value_of(scale, things)
        if value not in found:
            found[value] = laid_of(ahead), weighed_together(scale, things), laid_of(behind)
    return [found[value] for value in found]
