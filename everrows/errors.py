"""All errors of the package. Each keeps copies of what it names."""

from everrows.common import copied


class RowError(ValueError):
    """What is asked for cannot be told."""


class TooMany(RowError):
    """There would be more than may be."""


class BadDeed(RowError):
    """A deed, or a question, that is none here."""


class NothingDone(RowError):
    """There is nothing to be done, undone or merged."""


class BadText(RowError):
    """A text that is none, from a place on."""

    def __init__(self, place):
        # The words take the place of what args would keep: an error keeps no list that it was passed.
        super().__init__("the text cannot go on so")
        self.place = copied(place)


class UnknownLetter(RowError):
    """A letter that the reader lacks."""

    def __init__(self, letter):
        super().__init__("the reader lacks a letter")
        self.letter = copied(letter)


class NotClosed(RowError):
    """A dealing leads out of a lot."""

    def __init__(self, fault):
        super().__init__("the lot is not closed")
        self.fault = copied(fault)


class BadName(RowError):
    """A name that is none, or is taken."""

    def __init__(self, name):
        super().__init__("not such a name")
        self.name = copied(name)


class Clash(RowError):
    """Names that were changed to unlike things."""

    def __init__(self, names):
        super().__init__("names are changed to unlike things")
        self.names = copied(names)


class Missing(LookupError):
    """What is asked for is not there."""


class UnknownName(Missing):
    """A name that nothing has."""

    def __init__(self, name):
        super().__init__("nothing has this name")
        self.name = copied(name)


class NoMoment(Missing):
    """A number that no moment has."""

    def __init__(self, number):
        super().__init__("no moment has this number")
        self.number = copied(number)
