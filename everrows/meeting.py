"""Which letters stand side by side in a row, and which ahead of which."""

from everrows.common import each_told
from everrows.rows import parts_of


def letters_met(row):
    """The list of the pairs of letters of which somewhere the second one stands just behind the first one."""
    return [pair for _, _, pairs in each_told(row, parts_of, _ends_over) for pair in pairs]


def _ends_over(part, made):
    """(the first letter, the last one, the pairs that meet where parts do), None for a letter that is not there."""
    if isinstance(part, str):
        return part, part, []
    word = part[0]
    if word == "mix":
        return None, None, []
    # A copy stands beside a copy.
    both = list(zip(made, made[1:])) if word == "join" else [(made[0], made[0])]
    pairs = [(one[1], other[0]) for one, other in both if one[1] is not None and other[0] is not None]
    return made[0][0] if word != "left" else None, made[-1][1] if word != "right" else None, pairs


def letters_ahead(row):
    """The list of the pairs of letters of which somewhere the first one is ahead of the second one."""
    return [pair for _, pairs in each_told(row, parts_of, _letters_over) for pair in pairs]


def _letters_over(part, made):
    """(the letters of a part, the pairs of which one is in a part or copy ahead of that of the other one)."""
    if isinstance(part, str):
        return [part], []
    letters = sorted({letter for told, _ in made for letter in told})
    if part[0] != "join":
        return letters, [(c, d) for c in letters for d in letters]
    pairs = []
    for k, (told, _) in enumerate(made):
        pairs.extend([(c, d) for before, _ in made[:k] for c in before for d in told])
    return letters, pairs
