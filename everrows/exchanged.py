"""Rows and readers turned about, and with other rows in the place of letters."""

from everrows.common import each_told
from everrows.readers import answer
from everrows.rows import parts_of, row_made
from everrows.tables import both_of, count_of

TURNED = {"join": "join", "right": "left", "left": "right", "mix": "mix"}


def turned_row(row):
    """The row turned about."""
    return each_told(row, parts_of, _turned_over)[-1]


def _turned_over(part, rows):
    if isinstance(part, str):
        return part
    return row_made(TURNED[part[0]], rows[::-1] if part[0] == "join" else rows)


def turned(reader):
    """The reader that answers a row turned about as this one answers the row."""
    table, letters, yes = reader
    answers = list(range(count_of(table)))
    both = tuple([tuple([both_of(table, t, s) for t in answers]) for s in answers])
    return (both, table[2], table[1], table[3]), letters, yes


def replaced_row(row, rows):
    """The row with each of its letters replaced by what the dict rows tells of it."""
    return each_told(row, parts_of, lambda part, made: row_made(part[0], made) if made else rows[part])[-1]


def replaced(reader, rows):
    """The reader of the letters of the dict rows that answers a row as this one does the row with letters replaced."""
    return reader[0], tuple([(letter, answer(reader, rows[letter])) for letter in sorted(rows)]), reader[2]
