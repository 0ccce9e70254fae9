"""Questions about the things of a shelf, what they are told, and what is told of that later."""

from everrows.agreeing import agree, judge_agree, judge_within, within
from everrows.cuts import is_of_reader
from everrows.errors import BadDeed
from everrows.names import check_known, check_names
from everrows.one import compare, judge_compare
from everrows.reached import always, judge_always
from everrows.readers import answer, reader_letters

# What the things must be that a question names.
KINDS = {
    "answer": ("reader", "row"),
    "always": ("reader",),
    "agree": ("reader", "reader"),
    "within": ("reader", "reader"),
    "compare": ("row", "row"),
}


def things_asked(shelf, question):
    """The list of the rows and readers that a question, any value, names.

    Raises BadDeed() for what is no question, BadName(name), UnknownName(name), or BadDeed() for things of other kinds.
    """
    if not isinstance(question, tuple) or len(question) == 0 or question[0] not in list(KINDS):
        raise BadDeed()
    word, *names = question
    if len(names) != len(KINDS[word]):
        raise BadDeed()
    check_names(names)
    check_known(names, shelf)
    things = [shelf[name] for name in names]
    told = [thing[1] for thing in things]
    if tuple([thing[0] for thing in things]) != KINDS[word] or not _go_together(word, told):
        raise BadDeed()
    return told


def _go_together(word, told):
    """Whether the letters of what a question names are such that it can be asked."""
    if word == "answer":
        return is_of_reader(told[0], told[1])
    return word not in ("agree", "within") or reader_letters(told[0]) == reader_letters(told[1])


def answer_to(shelf, question):
    """What a question, any value, is told; raises what things_asked does."""
    told = things_asked(shelf, question)
    word = question[0]
    if word == "answer":
        return answer(told[0], told[1])
    if word == "always":
        return always(told[0])
    one, other = told
    if word == "agree":
        return agree(one, other)
    return within(one, other) if word == "within" else compare(one, other)


def judged(shelf, question, told):
    """None if what a question was told is still right, else the first fault; raises what things_asked does."""
    things = things_asked(shelf, question)
    word = question[0]
    if word == "answer":
        now = answer(things[0], things[1])
        return None if now == told else ("answer", now)
    if word == "always":
        return judge_always(things[0], told)
    one, other = things
    if word == "agree":
        return judge_agree(one, other, told)
    return judge_within(one, other, told) if word == "within" else judge_compare(one, other, told)
