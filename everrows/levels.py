"""Levels of rows: what is near lumped, what is mixed all through blended, in turns, until one letter is left.

In a level each letter of levels stands as its text, and a dict tells the letters: they may be too deep for keys.
"""

from everrows.blending import blended_texts
from everrows.common import each_told, inner_first
from everrows.lumping import lumped_texts
from everrows.lumps import letter_text
from everrows.meeting import letters_met
from everrows.rows import parts_of, row_made


def has_near(row):
    """Whether two places of a row of levels are near."""
    return _has_near(level_of(row))


def lumped(row):
    """A row of levels whose places are the lumps of a row of levels."""
    return _row_of(_lumped(level_of(row)))


def blended(row):
    """A row of levels in which each greatest mixture of a row of levels without near places is one place."""
    return _row_of(_blended(level_of(row)))


def level_rows(row):
    """The list with a row of levels for each level of a row, the row itself first."""
    return [row, *[_row_of(level) for level in _levels_of(row)[1:]]]


def levels(row):
    """The list of the lists of the letters that stand in each level of a row, ascending by text."""
    return [[letters[text] for text in sorted(letters)] for _, letters in _levels_of(row)]


def form(row):
    """The form of a row: the letter of its last level."""
    return _row_of(_levels_of(row)[-1])


def _levels_of(row):
    """The list of all levels of a row."""
    found, level = [], level_of(row)
    while level is not None:
        found.append(level)
        level = level_behind(level)
    return found


def level_of(row):
    """The level that a row of levels is: (the row of the texts, the dict from the texts to the letters)."""
    letters = [part for part in inner_first(row, _parts_of) if not _parts_of(part)]
    return _with_letters(row, letter_text), {letter_text(letter): letter for letter in letters}


def level_behind(level):
    """The level behind a level, None behind the last one."""
    if isinstance(level[0], str):
        return None
    return _lumped(level) if _has_near(level) else _blended(level)


def _has_near(level):
    return len(letters_met(level[0])) > 0


def _lumped(level):
    return _told_anew(lumped_texts(level[0]), level[1])


def _blended(level):
    return _told_anew(blended_texts(level[0]), level[1])


def _told_anew(row, letters):
    """The level that a row of levels is, in whose letters texts stand for letters."""
    told, found = level_of(row)
    return told, {text: _with_words(found[text], letters) for text in found}


def _with_words(letter, letters):
    """A letter of levels in which texts stand for letters, with these."""
    if isinstance(letter, str):
        return letters[letter]
    return (letter[0], *[tuple([letters[text] for text in word]) for word in letter[1:]])


def _row_of(level):
    """The row of levels that is a level."""
    row, letters = level
    return _with_letters(row, lambda text: letters[text])


def _with_letters(row, tell):
    """A row of levels with what tell tells in the place of each letter."""
    return each_told(row, _parts_of, lambda part, made: row_made(part[0], made) if made else tell(part))[-1]


def _parts_of(row):
    """The tuple of the rows of which a row of levels is told, () of a letter of levels."""
    return () if row[0] in ("lump", "mixture") else parts_of(row)
