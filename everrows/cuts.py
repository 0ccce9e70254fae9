"""Cuts of rows: what stands ahead and behind, how it is answered, and of which sort a cut is."""

from everrows.meeting import letters_ahead, letters_met
from everrows.one import are_one
from everrows.places import first_place, last_place, letter_at
from everrows.readers import answer, reader_letters
from everrows.rows import is_row, joined, row_letters
from everrows.weighed import answer_scale, cuts_weighed, edge_scale


def cuts(reader, row):
    """The ascending list of the pairs of answers, of what is ahead and of what is behind, that some cut has."""
    return sorted(_rows_by_answers(reader, row))


def cut_rows(reader, row, pair):
    """Two rows with the answers of a pair that, joined, are one with the row; None if there are none."""
    return _rows_by_answers(reader, row).get(pair)


def _rows_by_answers(reader, row):
    """The dict that has, for each pair of answers of some cut, what is ahead of such a cut and what is behind it."""
    return {(s, t): (u, v) for (s, u), (t, v) in cuts_weighed(answer_scale(reader), row)}


def judge_cut(reader, row, pair, value):
    """None if any value is what cut_rows may return, else the first fault."""
    if value is None:
        return ("there",) if pair in _rows_by_answers(reader, row) else None
    if not _are_two_rows(value) or not all(is_of_reader(reader, part) for part in value):
        return ("form",)
    answers = tuple([answer(reader, part) for part in value])
    if answers != pair:
        return ("answer", *answers)
    return None if are_one(joined(value), row) else ("row",)


def _are_two_rows(value):
    """Whether any value is a tuple of two rows."""
    return isinstance(value, tuple) and len(value) == 2 and all(is_row(part) for part in value)


def is_of_reader(reader, row):
    """Whether all letters of a row are letters of a reader."""
    letters = reader_letters(reader)
    return all(letter in letters for letter in row_letters(row))


def first_letter(row):
    """The letter of the first place, None if there is no first place."""
    place = first_place(row)
    return None if place is None else letter_at(row, place)


def last_letter(row):
    """The letter of the last place, None if there is no last place."""
    place = last_place(row)
    return None if place is None else letter_at(row, place)


def sorts_of_cuts(row):
    """The ascending list of the sorts that the cuts of a row have."""
    return sorted(_rows_by_sort(row))


def cut_of_sort(row, sort):
    """Two rows that, joined, are one with the row, with a cut of this sort between them; None if there are none."""
    return _rows_by_sort(row).get(sort)


def _rows_by_sort(row):
    """The dict that has, for each sort of some cut, what is ahead of such a cut and what is behind it."""
    return {_sort(last, first): (u, v) for ((_, last), u), ((first, _), v) in cuts_weighed(edge_scale(), row)}


def _sort(last, first):
    """The sort of a cut, by whether there is a last place ahead of it, and a first one behind it."""
    if last:
        return "jump" if first else "last"
    return "first" if first else "gap"


def judge_cut_of_sort(row, sort, value):
    """None if any value is what cut_of_sort may return, else the first fault."""
    if value is None:
        return ("there",) if sort in _rows_by_sort(row) else None
    if not _are_two_rows(value):
        return ("form",)
    u, v = value
    found = _sort(last_place(u) is not None, first_place(v) is not None)
    if found != sort:
        return "sort", found
    return None if are_one(joined(value), row) else ("row",)


def next_pairs(row):
    """The ascending list of the pairs of letters of which somewhere the second one stands just behind the first one."""
    return sorted(set(letters_met(row)))


def ahead_pairs(row):
    """The ascending list of the pairs of letters of which somewhere the first one is ahead of the second one."""
    return sorted(set(letters_ahead(row)))
