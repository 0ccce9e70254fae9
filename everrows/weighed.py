"""Rows beside what they come to, and how cuts are found by this, from those of the parts.

A weighed row is a pair (value, row). A scale tells the values: (tell, deal, many), where tell(letter) is the value of a
letter, deal(word, values) that of rows dealt with by a word, and copies of a row, one behind another, have all values
that they ever have up to number many.
"""

from everrows.common import each_told
from everrows.readers import dealt
from everrows.rows import parts_of
from everrows.sides import laid
from everrows.tables import count_of


def answer_scale(reader):
    """The scale whose values are the answers of a reader."""
    table = reader[0]
    answers = {letter: s for letter, s in reader[1]}
    return lambda part: answers[part], lambda word, values: dealt(table, word, values), count_of(table)


def edge_scale():
    """The scale whose values are pairs: whether there is a first place, whether there is a last one."""
    return lambda letter: (True, True), _edges_dealt, 1


def _edges_dealt(word, edges):
    return word in ("join", "right") and edges[0][0], word in ("join", "left") and edges[-1][1]


def weighed(scale, part, made):
    """A part, weighed, made being the weighed rows of which it is told."""
    tell, deal, _ = scale
    return tell(part) if isinstance(part, str) else deal(part[0], [value for value, _ in made]), part


def value_of(scale, things):
    """The value of weighed rows, one behind another."""
    _, deal, _ = scale
    return deal("join", [value for value, _ in things])


def weighed_together(scale, things):
    """Weighed rows, one behind another, as one."""
    return value_of(scale, things), laid([row for _, row in things])


def cuts_weighed(scale, row):
    """The list of pairs (what is ahead, what is behind), weighed, for cuts of a row, one of each two values."""
    return each_told(row, parts_of, lambda part, made: _cuts_over(scale, part, made))[-1][1]


def _cuts_over(scale, part, made):
    """(the part, weighed, its cuts), made being such pairs of the rows of which it is told."""
    whole = weighed(scale, part, [thing for thing, _ in made])
    if isinstance(part, str):
        return whole, []
    if part[0] == "mix":
        return whole, _each_once(scale, _cuts_of_mix(whole, made))
    x, cuts = made[0]
    if part[0] != "join":
        tell = _cuts_of_right if part[0] == "right" else _cuts_of_left
        return whole, _each_once(scale, tell(whole, x, cuts, scale[2]))
    for y, more in made[1:]:
        cuts = _each_once(scale, _cuts_of_two(x, cuts, y, more))
        x = weighed_together(scale, [x, y])
    return whole, cuts


# Each of these tells a list of pairs of lists of weighed rows, those that stand ahead and those behind.

def _cuts_of_two(x, cuts, y, more):
    found = [([p], [q, y]) for p, q in cuts]
    found.append(([x], [y]))
    found.extend([([x, p], [q]) for p, q in more])
    return found


def _cuts_of_right(whole, x, cuts, many):
    found = [([x] * k, [whole]) for k in range(1, many + 1)]
    found.extend([([x] * k + [p], [q, whole]) for k in range(many + 1) for p, q in cuts])
    return found


def _cuts_of_left(whole, x, cuts, many):
    found = [([whole], [x] * k) for k in range(1, many + 1)]
    found.extend([([whole, p], [q] + [x] * k) for k in range(many + 1) for p, q in cuts])
    return found


def _cuts_of_mix(whole, made):
    found = [([whole], [whole])]
    for x, cuts in made:
        found.extend([([whole], [x, whole]), ([whole, x], [whole])])
        found.extend([([whole, p], [q, whole]) for p, q in cuts])
    return found


def _each_once(scale, cuts):
    """The cuts, each two values once, what is ahead and what is behind laid."""
    found = {}
    for ahead, behind in cuts:
        values = value_of(scale, ahead), value_of(scale, behind)
        if values not in found:
            found[values] = weighed_together(scale, ahead), weighed_together(scale, behind)
    return [found[values] for values in found]
