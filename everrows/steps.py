"""Steps: rows told entry by entry, no part twice."""

from everrows.common import is_number
from everrows.errors import TooMany
from everrows.lots import ascend, lot_of
from everrows.readers import dealt, reader_letters
from everrows.rows import is_letter, row_made

MOST_SIZE = 200


def is_steps(value):
    """Whether any value is steps."""
    if not isinstance(value, tuple) or len(value) == 0:
        return False
    return all(is_letter(entry) or _is_dealing(entry, k) for k, entry in enumerate(value))


def _is_dealing(value, k):
    """Whether any value can be the entry number k, and is no letter."""
    if not isinstance(value, tuple) or len(value) == 0:
        return False
    word, *numbers = value
    if word == "mix":
        if len(numbers) != 1 or not isinstance(numbers[0], tuple) or len(numbers[0]) == 0:
            return False
        numbers = numbers[0]
    elif len(numbers) != (2 if word == "join" else 1) or word not in ("join", "right", "left"):
        return False
    # Kinds are looked at first: what is no number may have no order.
    return all(is_number(i) and 0 <= i < k for i in numbers) and (word != "mix" or ascend(numbers))


def numbers_in(entry):
    """The numbers of the entries of which an entry is told, () of a letter."""
    if isinstance(entry, str):
        return ()
    return entry[1] if entry[0] == "mix" else entry[1:]


def entry_of(word, numbers):
    """The entry of a word and a list of the numbers of entries."""
    return ("mix", lot_of(numbers)) if word == "mix" else (word, *numbers)


def moved(entry, names):
    """An entry with names[i] in the place of each number i."""
    return entry if isinstance(entry, str) else entry_of(entry[0], [names[i] for i in numbers_in(entry)])


def row_of(steps):
    """The row that steps tell; TooMany() if its size is above 200."""
    sizes = []
    for entry in steps:
        sizes.append(1 + sum([sizes[i] for i in numbers_in(entry)]))
    if sizes[-1] > MOST_SIZE:
        raise TooMany()
    rows = []
    for entry in steps:
        parts = [rows[i] for i in numbers_in(entry)]
        rows.append(row_made(entry[0], parts) if parts else entry)
    return rows[-1]


def letters_in(steps):
    """The ascending tuple of the letters that are entries, each once."""
    return tuple(sorted({entry for entry in steps if isinstance(entry, str)}))


def tidied(steps):
    """Steps for the same row, each entry once and none that the last one does not need."""
    kept, stands_for = {}, []
    for entry in steps:
        anew = moved(entry, stands_for)
        stands_for.append(kept.setdefault(anew, len(kept)))
    entries, last = list(kept), stands_for[-1]
    needed = {last: True}
    for k in range(last, -1, -1):
        if k in needed:
            needed.update({i: True for i in numbers_in(entries[k])})
    names = {k: name for name, k in enumerate(sorted(needed))}
    return tuple([moved(entries[k], names) for k in sorted(needed)])


def step_answers(reader, steps):
    """The tuple of a reader's answers, one for each entry."""
    table, letters, _ = reader
    told, answers = {letter: s for letter, s in letters}, []
    for entry in steps:
        if isinstance(entry, str):
            answers.append(told[entry])
        else:
            answers.append(dealt(table, entry[0], [answers[i] for i in numbers_in(entry)]))
    return tuple(answers)


def lacking_letter(reader, steps):
    """The letter of the lowest entry whose letter is none of the reader's, None if there is none."""
    letters = reader_letters(reader)
    for entry in steps:
        if isinstance(entry, str) and entry not in letters:
            return entry
    return None
