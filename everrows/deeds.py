"""Shelves of named things, the deeds that make one shelf of another one, and their texts."""

from everrows.common import is_number
from everrows.errors import BadDeed, BadText, TooMany
from everrows.exchanged import turned, turned_row
from everrows.leasts import least
from everrows.made import beside
from everrows.names import check_known, check_names, is_name
from everrows.places import is_place, way_to
from everrows.readers import is_reader, reader_letters
from everrows.rows import depth_of, is_row, row_made, size_of
from everrows.sides import put_at
from everrows.texts import read_row, row_text

MOST_SIZE = 24
MOST_DEPTH = 6
MOST_THINGS = 12
MOST_NAMES = 6
MOST_FIGURES = 9

# The kinds of the parts of each deed behind its word.
PARTS = {
    "row": ("name", "row"),
    "reader": ("name", "reader"),
    "join": ("name", "names"),
    "mix": ("name", "names"),
    "right": ("name", "name"),
    "left": ("name", "name"),
    "put": ("name", "name", "place", "name"),
    "turn": ("name", "name"),
    "least": ("name", "name"),
    "beside": ("name", "name", "word", "name"),
    "away": ("name",),
}

# What the things must be that a deed asks for.
ASKED = {
    "join": "row",
    "mix": "row",
    "right": "row",
    "left": "row",
    "put": "row",
    "least": "reader",
    "beside": "reader",
}


def is_thing(value):
    """Whether any value is a thing."""
    if not isinstance(value, tuple) or len(value) != 2:
        return False
    if value[0] == "row":
        return is_row(value[1]) and _is_small(value[1])
    return value[0] == "reader" and is_reader(value[1])


def _is_small(row):
    """Whether a row has no greater size and depth than a thing may have."""
    return size_of(row) <= MOST_SIZE and depth_of(row) <= MOST_DEPTH


def thing_text(thing):
    """The text of a thing."""
    return row_text(thing[1]) if thing[0] == "row" else _reader_text(thing[1])


def _reader_text(reader):
    (both, right, left, mixed), letters, yes = reader
    return " ".join([
        ",".join([letter + str(s) for letter, s in letters]),
        "/".join([_figures(row) for row in both]),
        _figures(right),
        _figures(left),
        _figures(mixed),
        _figures(yes) if yes else "-",
    ])


def _figures(answers):
    return "".join([str(s) for s in answers])


def after(shelf, deed):
    """The shelf behind a deed, any value; the shelf itself stays as it was."""
    if not _is_deed(deed):
        raise BadDeed()
    check_names(_names_in(deed))
    asked = _names_in(deed) if deed[0] == "away" else _names_in(deed)[1:]
    check_known(asked, shelf)
    if deed[0] == "away":
        return {name: shelf[name] for name in shelf if name != deed[1]}
    thing = _made(deed, [shelf[name] for name in asked])
    if deed[1] not in shelf and len(shelf) >= MOST_THINGS:
        raise TooMany()
    return {**shelf, deed[1]: thing}


def _is_deed(value):
    """Whether any value is a deed, if one does not ask for names: these may be any values."""
    if not isinstance(value, tuple) or len(value) == 0 or value[0] not in list(PARTS):
        return False
    kinds = PARTS[value[0]]
    if len(value) != len(kinds) + 1:
        return False
    return all(_is_of_kind(value[0], kind, part) for kind, part in zip(kinds, value[1:]))


def _is_of_kind(word, kind, part):
    """Whether any value can be a part of a kind of a deed with a word."""
    if kind in ("row", "reader"):
        return is_thing((kind, part))
    if kind == "names":
        return isinstance(part, tuple) and (2 if word == "join" else 1) <= len(part) <= MOST_NAMES
    if kind == "place":
        return isinstance(part, tuple) and all(is_number(number) and number >= 0 for number in part)
    return kind != "word" or part in ("and", "or")


def _names_in(deed):
    """The list of the parts of a deed that are to be names, in order."""
    found = []
    for kind, part in zip(PARTS[deed[0]], deed[1:]):
        if kind == "name":
            found.append(part)
        elif kind == "names":
            found.extend(part)
    return found


def _made(deed, things):
    """The thing that a deed makes of the things that it asks for."""
    word = deed[0]
    if word in ("row", "reader"):
        return word, deed[2]
    if not all(thing[0] == ASKED.get(word, thing[0]) for thing in things):
        raise BadDeed()
    told = [thing[1] for thing in things]
    if things[0][0] == "reader":
        return "reader", _reader_made(deed, told)
    row = _row_made(deed, told)
    if not _is_small(row):
        raise TooMany()
    return "row", row


def _reader_made(deed, readers):
    if deed[0] == "turn":
        return turned(readers[0])
    if deed[0] == "least":
        return least(readers[0])
    one, other = readers
    if reader_letters(one) != reader_letters(other):
        raise BadDeed()
    return beside(one, other, deed[3])


def _row_made(deed, rows):
    if deed[0] == "turn":
        return turned_row(rows[0])
    if deed[0] == "put":
        return _put(rows[0], deed[3], rows[1])
    return row_made(deed[0], rows)


def _put(row, place, other):
    if not is_place(row, place):
        raise BadDeed()
    # What would be far too great is not made at all: a number in a place may have many figures.
    if any(dealing[0] in ("right", "left") and numbers[0] > MOST_SIZE for dealing, numbers, _ in way_to(row, place)):
        raise TooMany()
    return put_at(row, place, other)


def deed_text(deed):
    """The text of a deed whose names are names."""
    words = [deed[0]]
    for kind, part in zip(PARTS[deed[0]], deed[1:]):
        words.extend(_words_of(kind, part))
    return " ".join(words)


def _words_of(kind, part):
    """The list of the words by which a part of a kind is told."""
    if kind in ("row", "reader"):
        return [thing_text((kind, part))]
    if kind == "place":
        return [".".join([str(number) for number in part]) if part else "-"]
    return list(part) if kind == "names" else [part]


def read_deed(text):
    """The deed whose text any value is; BadText(0) if there is none."""
    deed = _read(text) if isinstance(text, str) else None
    if not _is_deed(deed) or not all(is_name(name) for name in _names_in(deed)):
        raise BadText(0)
    return deed


def _read(text):
    """What could be the deed of a text, None where a part can be none; None if there are not as many parts."""
    words = text.split(" ")
    kinds = PARTS.get(words[0], ())
    if "names" in kinds:
        words = [*words[:2], words[2:]]
    elif "row" in kinds or "reader" in kinds:
        words = text.split(" ", 2)
    if len(words) != len(kinds) + 1:
        return None
    return (words[0], *[_read_part(kind, part) for kind, part in zip(kinds, words[1:])])


def _read_part(kind, words):
    if kind == "row":
        return _read_row(words)
    if kind == "reader":
        return _read_reader(words)
    if kind == "place":
        return read_place(words)
    return tuple(words) if kind == "names" else words


def _read_row(text):
    try:
        return read_row(text)
    except BadText:
        return None


def _read_reader(text):
    """The reader of a text, None if there is none."""
    words = text.split(" ")
    if len(words) != 6:
        return None
    letters, both, right, left, mixed, yes = words
    reader = (
        (tuple([_answers(row) for row in both.split("/")]), _answers(right), _answers(left), _answers(mixed)),
        tuple([(pair[:1], _answer(pair[1:])) for pair in letters.split(",")]),
        () if yes == "-" else _answers(yes),
    )
    # Only what reads back is a text: so () told without a "-" is none.
    return reader if is_reader(reader) and _reader_text(reader) == text else None


def _answers(text):
    return tuple([_answer(sign) for sign in text])


def _answer(text):
    """The answer of a text, some number that is none if the text is no figure."""
    return "0123456789".find(text) if len(text) == 1 else -1


def read_place(text):
    """The place of a text, None if it is none."""
    if text == "-":
        return ()
    numbers = text.split(".")
    return tuple([int(number) for number in numbers]) if all(_is_numeral(number) for number in numbers) else None


def _is_numeral(text):
    """Whether a text is that of an integer from 0 on, of not too many figures."""
    if not 1 <= len(text) <= MOST_FIGURES or not all("0" <= sign <= "9" for sign in text):
        return False
    return text == "0" or text[0] != "0"
