"""Readers: lawful tables with the answers of letters, and how they answer rows."""

from everrows.common import each_told, inner_first
from everrows.errors import UnknownLetter
from everrows.lawful import first_broken
from everrows.lots import are_answers, ascend, is_answer
from everrows.rows import is_letter, is_row, parts_of
from everrows.tables import count_of, is_table, joined_of, left_of, mixed_of, right_of

MOST_LETTERS = 5


def is_reader(value):
    """Whether any value is a reader."""
    if not isinstance(value, tuple) or len(value) != 3:
        return False
    table, letters, yes = value
    if not is_table(table) or not isinstance(letters, tuple) or not 1 <= len(letters) <= MOST_LETTERS:
        return False
    n = count_of(table)
    if not all(_is_pair(pair, n) and is_letter(pair[0]) for pair in letters) or not are_answers(yes, n):
        return False
    return ascend([pair[0] for pair in letters]) and ascend(yes) and first_broken(table) is None


def _is_pair(value, n):
    """Whether any value is a pair of anything and an answer of a table with n answers."""
    return isinstance(value, tuple) and len(value) == 2 and is_answer(value[1], n)


def reader_letters(reader):
    """The ascending list of a reader's letters."""
    return [letter for letter, _ in reader[1]]


def answer(reader, row):
    """The answer of a row; UnknownLetter(letter) for its first letter that the reader lacks."""
    return trace(reader, row)[-1][1]


def says(reader, row):
    """Whether a reader says yes to a row; UnknownLetter(letter) likewise."""
    return answer(reader, row) in reader[2]


def trace(reader, row):
    """The list of pairs (part, answer) of all parts of a row, inner ones first; UnknownLetter(letter) likewise."""
    table, letters, _ = reader
    told = {letter: s for letter, s in letters}

    def tell(part, answers):
        if not isinstance(part, str):
            return dealt(table, part[0], answers)
        if part not in told:
            raise UnknownLetter(part)
        return told[part]

    return list(zip(inner_first(row, parts_of), each_told(row, parts_of, tell)))


def dealt(table, word, answers):
    """What comes of rows with these answers by the dealing of a word."""
    if word == "right":
        return right_of(table, answers[0])
    if word == "left":
        return left_of(table, answers[0])
    return joined_of(table, answers) if word == "join" else mixed_of(table, answers)


def judge_trace(reader, row, value):
    """None if any value is the trace of the row, else the first fault."""
    n = count_of(reader[0])
    if not isinstance(value, (list, tuple)) or not all(_is_pair(pair, n) and is_row(pair[0]) for pair in value):
        return ("form",)
    right = trace(reader, row)
    for k in range(max(len(value), len(right))):
        if k >= min(len(value), len(right)) or value[k][0] != right[k][0]:
            return ("parts", k)
    for k, (pair, known) in enumerate(zip(value, right)):
        if pair[1] != known[1]:
            return ("answer", k)
    return None
