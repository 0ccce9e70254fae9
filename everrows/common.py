"""What several files need: numbers, papers, wholes told from the inside, and copies."""


def is_number(value):
    """Whether a value is an integer. True and False are none, though Python counts them as such."""
    return isinstance(value, int) and not isinstance(value, bool)


def is_paper(value, word):
    """Whether any value is a tuple of a word and one thing more, whatever that is."""
    return isinstance(value, tuple) and len(value) == 2 and value[0] == word


def is_told_throughout(value, parts_told):
    """Whether parts_told tells the parts, and not None, of any value and of all that stands in it."""
    waiting = [value]
    while waiting:
        parts = parts_told(waiting.pop())
        if parts is None:
            return False
        waiting.extend(parts)
    return True


def inner_first(whole, parts_of):
    """The list of all parts of a whole, in order, what stands in a part ahead of it, and last the whole itself.

    parts_of tells the parts of one thing. No call nests in another one, so that a whole may be as deep as it likes.
    """
    found, waiting = [], [whole]
    while waiting:
        part = waiting.pop()
        found.append(part)
        waiting.extend(parts_of(part))
    # Each part was found ahead of what stands in it, and the last of its parts first: so from behind it is the order.
    return found[::-1]


def each_told(whole, parts_of, tell):
    """The list of what tell makes of each part, inner ones first: of the part, and the list of what its parts made."""
    made, waiting = [], []
    for part in inner_first(whole, parts_of):
        first = len(waiting) - len(parts_of(part))
        made.append(tell(part, waiting[first:]))
        waiting[first:] = [made[-1]]
    return made


def depth_within(whole, parts_of):
    """How many things with parts stand within one another in a whole: 0 if it has none itself."""
    return each_told(whole, parts_of, _depth_over)[-1]


def _depth_over(_part, depths):
    return 1 + max(depths, default=-1)


def copied(value):
    """A copy of any value, at any depth: no list and no dict in it is one of the value's."""
    return each_told(value, _contents, _made_again)[-1]


def _contents(value):
    if isinstance(value, dict):
        return [value[key] for key in value]
    if isinstance(value, (list, tuple)):
        return list(value)
    return []


def _made_again(value, contents):
    if isinstance(value, dict):
        return {key: part for key, part in zip(value, contents)}
    if isinstance(value, list):
        return list(contents)
    if isinstance(value, tuple):
        return tuple(contents)
    return value
