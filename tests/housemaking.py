"""Things, deeds and a house told anew, straight from part 10 of the document."""

from everrows.agreeing import agree, judge_agree, judge_within, within
from everrows.errors import BadDeed, BadName, Clash, NoMoment, NothingDone, TooMany, UnknownName
from everrows.exchanged import turned, turned_row
from everrows.leasts import least
from everrows.made import beside
from everrows.one import compare, judge_compare
from everrows.places import is_place
from everrows.reached import always, judge_always
from everrows.readers import answer, is_reader
from everrows.rows import depth_of, is_row, row_letters, size_of
from everrows.sides import put_at
from tests.onemaking import join, some_rows
from tests.rowmaking import ODD_VALUES, random_place
from tests.tablemaking import HAS, SEES, random_reader

WORDS = ("row", "reader", "join", "mix", "right", "left", "put", "turn", "least", "beside", "away")
ROW_WORDS = ("join", "mix", "right", "left", "put")
NO_NAMES = (None, "", "A", "a b", "abcdefghi", 1, True, ("p",), ["p"], {"p": 1}, "p1", "-", "p ", "p\n")
NAMES = ("p", "q", "r", "s", "t", "main", "abcdefgh")


def name_as_told(value):
    return type(value) is str and 1 <= len(value) <= 8 and set(value) <= set("abcdefghijklmnopqrstuvwxyz")


def small(row):
    return size_of(row) <= 24 and depth_of(row) <= 6


def thing_as_told(value):
    if type(value) is not tuple or len(value) != 2 or type(value[0]) is not str:
        return False
    if value[0] == "row":
        return is_row(value[1]) and small(value[1])
    return value[0] == "reader" and is_reader(value[1])


def places_as_told(value):
    return type(value) is tuple and all(type(n) is int and n >= 0 for n in value)


def shape_as_told(deed):
    """Whether a deed is refused by no first BadDeed()."""
    if type(deed) is not tuple or not deed or type(deed[0]) is not str or deed[0] not in WORDS:
        return False
    word, many = deed[0], len(deed) - 1
    if word in ("row", "reader"):
        return many == 2 and thing_as_told((word, deed[2]))
    if word in ("join", "mix"):
        return many == 2 and type(deed[2]) is tuple and (2 if word == "join" else 1) <= len(deed[2]) <= 6
    if word == "put":
        return many == 4 and places_as_told(deed[3])
    if word == "beside":
        return many == 4 and type(deed[3]) is str and deed[3] in ("and", "or")
    return many == (1 if word == "away" else 2)


def names_in(deed):
    word = deed[0]
    if word in ("row", "reader", "away"):
        return [deed[1]]
    if word in ("join", "mix"):
        return [deed[1], *deed[2]]
    return [deed[1], deed[2]] + ([deed[4]] if word in ("put", "beside") else [])


def after_as_told(shelf, deed):
    """[10.2]: the shelf behind a deed, or the error that is raised."""
    if not shape_as_told(deed):
        raise BadDeed()
    word, names = deed[0], names_in(deed)
    for name in names:
        if not name_as_told(name):
            raise BadName(name)
    for name in names[0 if word == "away" else 1:]:
        if name not in shelf:
            raise UnknownName(name)
    found = {name: shelf[name] for name in shelf}
    if word == "away":
        del found[names[0]]
        return found
    things = [shelf[name] for name in names[1:]]
    told = [thing for _, thing in things]
    kinds = {kind for kind, _ in things}
    if (word in ROW_WORDS and "reader" in kinds) or (word in ("least", "beside") and "row" in kinds):
        raise BadDeed()
    if word == "put" and not is_place(told[0], deed[3]):
        raise BadDeed()
    if word == "beside" and [c for c, _ in told[0][1]] != [c for c, _ in told[1][1]]:
        raise BadDeed()
    if word in ("row", "reader"):
        made = (word, deed[2])
    elif word == "least":
        made = ("reader", least(told[0]))
    elif word == "beside":
        made = ("reader", beside(told[0], told[1], deed[3]))
    elif word == "turn":
        made = (things[0][0], (turned_row if things[0][0] == "row" else turned)(told[0]))
    elif word == "put":
        made = ("row", put_at(told[0], deed[3], told[1]))
    elif word in ("join", "mix"):
        made = ("row", (word, tuple(told)))
    else:
        made = ("row", (word, told[0]))
    found[names[0]] = made
    if (made[0] == "row" and not small(made[1])) or len(found) > 12:
        raise TooMany()
    return found


def ask_as_told(shelf, question):
    """[10.5]."""
    kinds = {"answer": ("reader", "row"), "always": ("reader",), "agree": ("reader", "reader"), "within": ("reader", "reader"), "compare": ("row", "row")}
    if type(question) is not tuple or not question or type(question[0]) is not str or question[0] not in kinds:
        raise BadDeed()
    word, names = question[0], question[1:]
    if len(names) != len(kinds[word]):
        raise BadDeed()
    for name in names:
        if not name_as_told(name):
            raise BadName(name)
    for name in names:
        if name not in shelf:
            raise UnknownName(name)
    if tuple(shelf[name][0] for name in names) != kinds[word]:
        raise BadDeed()
    told = [shelf[name][1] for name in names]
    if word == "answer" and not set(row_letters(told[1])) <= set(dict(told[0][1])):
        raise BadDeed()
    if word in ("agree", "within") and [c for c, _ in told[0][1]] != [c for c, _ in told[1][1]]:
        raise BadDeed()
    return {"answer": answer, "always": always, "agree": agree, "within": within, "compare": compare}[word](*told)


class Model:
    """[10.4] and [10.6], told anew: all that has been is kept, in lists of pairs."""

    def __init__(self):
        self.moments = [({}, ())]
        self.lines = [["main", 0, []]]
        self.now = 0
        self.kept = []

    def line(self, name):
        found = [k for k, line in enumerate(self.lines) if type(name) is str and line[0] == name]
        return found[0] if found else None

    def number(self):
        return self.lines[self.now][1]

    def shelf(self):
        return self.moments[self.number()][0]

    def shelf_at(self, number):
        if type(number) is not int or number not in range(len(self.moments)):
            raise NoMoment(number)
        return self.moments[number][0]

    def elders(self, number):
        self.shelf_at(number)
        return self.moments[number][1]

    def branches(self):
        return [name for name, _, _ in self.lines]

    def present(self):
        return self.lines[self.now][0]

    def new(self, shelf, elders):
        if len(self.moments) == 200:
            raise TooMany()
        self.moments.append((shelf, elders))
        self.lines[self.now] = [self.present(), len(self.moments) - 1, []]
        return self.number()

    def do(self, deed):
        return self.new(after_as_told(self.shelf(), deed), (self.number(),))

    def undo(self):
        line = self.lines[self.now]
        if not self.moments[line[1]][1]:
            raise NothingDone()
        line[2] = line[2] + [line[1]]
        line[1] = self.moments[line[1]][1][0]
        return line[1]

    def redo(self):
        line = self.lines[self.now]
        if not line[2]:
            raise NothingDone()
        line[1], line[2] = line[2][-1], line[2][:-1]
        return line[1]

    def branch(self, name):
        if not name_as_told(name) or name in self.branches():
            raise BadName(name)
        if len(self.lines) == 6:
            raise TooMany()
        self.lines.append([name, self.number(), []])

    def go(self, name):
        if self.line(name) is None:
            raise UnknownName(name)
        self.now = self.line(name)
        return self.number()

    def behind(self, number):
        return {number}.union(*(self.behind(elder) for elder in self.moments[number][1]))

    def common(self, one, other):
        return max(self.behind(one) & self.behind(other))

    def merge(self, name):
        if self.line(name) is None:
            raise UnknownName(name)
        other = self.lines[self.line(name)][1]
        base = self.common(self.number(), other)
        if base == other:
            raise NothingDone()
        ahead, mine, yours = self.moments[base][0], self.shelf(), self.moments[other][0]
        found, clashing = {}, []
        for one in sorted({*ahead, *mine, *yours}):
            a, b, c = ahead.get(one), mine.get(one), yours.get(one)
            if b != a and c != a and b != c:
                clashing.append(one)
            thing = c if c != a else b
            if thing is not None:
                found[one] = thing
        if clashing:
            raise Clash(tuple(clashing))
        if len(found) > 12:
            raise TooMany()
        return self.new(found, (self.number(), other))

    def ask(self, question):
        return ask_as_told(self.shelf(), question)

    def keep(self, label, question):
        if not name_as_told(label) or label in self.labels():
            raise BadName(label)
        told = self.ask(question)
        if len(self.kept) == 8:
            raise TooMany()
        self.kept.append((label, (question, told, self.number())))
        return told

    def labels(self):
        return sorted(label for label, _ in self.kept)

    def paper(self, label):
        for one, paper in self.kept:
            if type(label) is str and one == label:
                return paper
        raise UnknownName(label)

    def today(self, label):
        question, told, _ = self.paper(label)
        try:
            now = self.ask(question)
        except (BadDeed, BadName, UnknownName):
            return ("gone",)
        if question[0] == "answer":
            return None if now == told else ("answer", now)
        judges = {"always": judge_always, "agree": judge_agree, "within": judge_within, "compare": judge_compare}
        return judges[question[0]](*(self.shelf()[name][1] for name in question[1:]), told)


def raised(call, *arguments):
    """What a call returns, or the name of the error that it raises, with what it bears."""
    try:
        return ("returns", call(*arguments))
    except (BadDeed, BadName, Clash, NoMoment, NothingDone, TooMany, UnknownName) as error:
        return ("raises", type(error).__name__, repr(vars(error)))


def some_things(rng):
    """A few rows and readers by name."""
    found = [("row", row) for row in some_rows(rng, 3, 3, "ab", 9)]
    found += [("reader", random_reader(rng, "ab")) for _ in range(2)] + [("reader", SEES), ("reader", (HAS, (("a", 0), ("b", 1)), (1,)))]
    rng.shuffle(found)
    return found


def random_deed(rng, shelf, odd=0.1):
    """A deed for a shelf, sometimes with odd parts."""
    def name():
        if rng.random() < odd:
            return rng.choice(NO_NAMES + NAMES)
        return rng.choice(NAMES)

    def of_kind(kind):
        known = sorted(one for one in shelf if shelf[one][0] == kind)
        return rng.choice(known) if known and rng.random() > odd else name()

    word = rng.choice(WORDS)
    if word == "row":
        deed = (word, name(), some_rows(rng, 1, 3, "ab", 9)[0])
    elif word == "reader":
        deed = (word, name(), random_reader(rng, "ab"))
    elif word in ("join", "mix"):
        deed = (word, name(), tuple(of_kind("row") for _ in range(rng.randint(2 if word == "join" else 1, 3))))
    elif word == "put":
        one = of_kind("row")
        known = type(one) is str and one in shelf and shelf[one][0] == "row"
        place = random_place(rng, shelf[one][1], 3, 3) if known and rng.random() > odd else rng.choice(((), (0,), (1, 1), (2, 0), (0, 0, 0), (7,)))
        deed = (word, name(), one, place, of_kind("row"))
    elif word == "beside":
        deed = (word, name(), of_kind("reader"), rng.choice(("and", "or")), of_kind("reader"))
    elif word == "least":
        deed = (word, name(), of_kind("reader"))
    elif word == "away":
        deed = (word, rng.choice(sorted(shelf) or ["p"]) if rng.random() > odd else name())
    else:
        deed = (word, name(), of_kind("row" if word != "turn" else rng.choice(("row", "reader"))))
    if rng.random() < odd:
        k = rng.randrange(len(deed))
        deed = rng.choice((deed[:k] + deed[k + 1:], deed + ("p",), list(deed), deed[:k] + (rng.choice(ODD_VALUES),) + deed[k + 1:]))
    return deed


def random_question(rng, shelf, odd=0.1):
    def of_kind(kind):
        known = sorted(one for one in shelf if shelf[one][0] == kind)
        return rng.choice(known) if known and rng.random() > odd else rng.choice(NAMES if rng.random() > odd else NO_NAMES)

    word = rng.choice(("answer", "always", "agree", "within", "compare"))
    kinds = {"answer": ("reader", "row"), "always": ("reader",), "compare": ("row", "row")}.get(word, ("reader", "reader"))
    question = (word, *map(of_kind, kinds))
    if rng.random() < odd / 2:
        question = rng.choice((question[:-1], question + ("p",), list(question), ("ask",) + question[1:], rng.choice(ODD_VALUES)))
    return question


def many_parts(many):
    """A row of so many letters."""
    return join(*"ab"[:1] * many)
