"""A console: a house of its own, and lines that are said to it."""

from everrows.deeds import read_deed, read_place, thing_text
from everrows.errors import BadDeed, BadText, Missing, RowError
from everrows.house import House
from everrows.levels import form
from everrows.lumps import letter_text
from everrows.names import check_known, is_name
from everrows.places import is_place, letter_at
from everrows.questions import KINDS
from everrows.sides import ahead, behind
from everrows.texts import row_text

# The kinds of the words behind the first one of a line, all ways in which a line of this word can go on.
LINES = {
    "undo": ((),),
    "redo": ((),),
    "branch": (("name",),),
    "go": (("name",),),
    "merge": (("name",),),
    "show": ((), ("name",)),
    "letter": (("name", "place"),),
    "ahead": (("name", "place"),),
    "behind": (("name", "place"),),
    "form": (("name",),),
    "answer": (("name", "name"),),
    "always": (("name",),),
    "agree": (("name", "name"),),
    "within": (("name", "name"),),
    "compare": (("name", "name"),),
    "today": (("name",),),
}


class Console:
    """A house, and what is answered to lines."""

    def __init__(self):
        self._house = House()

    def house(self):
        """The house of the console."""
        return self._house

    def say(self, line):
        """Does what a line, any value, says; returns the answer."""
        told = _read(line)
        if told is None:
            return "what"
        try:
            return self._answer_to(told)
        except (RowError, Missing):
            return "refused"

    def _answer_to(self, told):
        """The answer to a line that was read."""
        word, *parts = told
        if word in KINDS:
            return self._asked(told, self._house.ask(told))
        if word == "keep":
            label, question = parts
            return self._asked(question, self._house.keep(label, question))
        if word == "today":
            fault = self._house.today(parts[0])
            return "right" if fault is None else fault[0]
        if word in ("do", "undo", "redo", "branch", "go", "merge"):
            self._move(word, parts)
            return str(self._house.number())
        return _shown(self._house.shelf(), word, parts)

    def _asked(self, question, told):
        """The answer to a question that was told something."""
        if question[0] != "answer":
            return told[0]
        _, reader = self._house.shelf()[question[1]]
        return f"{told} yes" if told in reader[2] else f"{told} no"

    def _move(self, word, parts):
        """Does what brings the house to another moment, or what may."""
        house = self._house
        if word == "do":
            house.do(parts[0])
        elif word == "undo":
            house.undo()
        elif word == "redo":
            house.redo()
        elif word == "branch":
            house.branch(parts[0])
        elif word == "go":
            house.go(parts[0])
        else:
            house.merge(parts[0])


def _shown(shelf, word, parts):
    """The answer to a line that asks for what stands in a shelf, its parts being a name and a place, if it has them."""
    if len(parts) == 0:
        return " ".join(sorted(shelf))
    check_known(parts[:1], shelf)
    thing = shelf[parts[0]]
    if word == "show":
        return thing_text(thing)
    kind, row = thing
    if kind != "row":
        raise BadDeed()
    if word == "form":
        return letter_text(form(row))
    if not is_place(row, parts[1]):
        raise BadDeed()
    if word == "letter":
        return letter_at(row, parts[1])
    found = ahead(row, parts[1]) if word == "ahead" else behind(row, parts[1])
    return "none" if found is None else row_text(found)


def _read(line):
    """The tuple of a line's word and its parts, names and places, None if any value is no line.

    A deed is told as ("do", deed), what is to be kept as ("keep", label, question).
    """
    if not isinstance(line, str):
        return None
    words = line.split(" ")
    if words[0] in LINES:
        return _read_words(words)
    if words[0] != "keep":
        return _read_doing(line)
    if len(words) < 3 or not is_name(words[1]) or words[2] not in KINDS:
        return None
    question = _read_words(words[2:])
    return None if question is None else ("keep", words[1], question)


def _read_words(words):
    """The tuple of the word and the parts of a line, given as its words; None if it is none."""
    for kinds in LINES[words[0]]:
        if len(kinds) == len(words) - 1:
            parts = [_read_part(kind, part) for kind, part in zip(kinds, words[1:])]
            return None if None in parts else (words[0], *parts)
    return None


def _read_part(kind, text):
    """The name or the place of a text, None if it is none."""
    if kind == "place":
        return read_place(text)
    return text if is_name(text) else None


def _read_doing(line):
    try:
        return "do", read_deed(line)
    except BadText:
        return None
