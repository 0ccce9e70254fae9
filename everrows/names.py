"""Names of things, branches and papers."""

from everrows.errors import BadName, UnknownName

MOST_SIGNS = 8


def is_name(value):
    """Whether any value is a name: a string of one to eight of the letters a to z."""
    return isinstance(value, str) and 1 <= len(value) <= MOST_SIGNS and all("a" <= sign <= "z" for sign in value)


def check_names(values):
    """Raises BadName(value) for the first of any values that is no name."""
    for value in values:
        if not is_name(value):
            raise BadName(value)


def check_known(names, shelf):
    """Raises UnknownName(name) for the first of names that is not in a shelf."""
    for name in names:
        if name not in shelf:
            raise UnknownName(name)
