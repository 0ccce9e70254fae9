"""A house of shelves: moments, branches that go from one to the next, and papers that are kept."""

from everrows.common import is_number
from everrows.deeds import MOST_THINGS, after
from everrows.errors import BadName, Clash, Missing, NoMoment, NothingDone, RowError, TooMany, UnknownName
from everrows.names import is_name
from everrows.questions import answer_to, judged

MOST_MOMENTS = 200
MOST_BRANCHES = 6
MOST_PAPERS = 8


class House:
    """Moments, numbered as they come, each with a shelf, and branches, each at a moment."""

    def __init__(self):
        self._shelves = [{}]
        self._elders = [()]
        # The moment of each branch, and those that it has left by undo, the last one last.
        self._at = {"main": 0}
        self._undone = {"main": []}
        self._present = "main"
        self._papers = {}

    def number(self):
        """The number of the present moment."""
        return self._at[self._present]

    def shelf(self):
        """The shelf of the present moment."""
        return dict(self._shelves[self.number()])

    def shelf_at(self, number):
        """The shelf of a moment; NoMoment(number) for any value that is none."""
        self._check_moment(number)
        return dict(self._shelves[number])

    def elders(self, number):
        """The tuple of the elders of a moment; NoMoment(number) for any value that is none."""
        self._check_moment(number)
        return self._elders[number]

    def _check_moment(self, number):
        if not is_number(number) or not 0 <= number < len(self._shelves):
            raise NoMoment(number)

    def branches(self):
        """The list of the names of the branches, as they came."""
        return list(self._at)

    def present(self):
        """The name of the present branch."""
        return self._present

    def do(self, deed):
        """A new moment with the shelf behind a deed; returns its number."""
        return self._go_on(after(self._shelves[self.number()], deed), (self.number(),))

    def _go_on(self, shelf, elders):
        """A new moment, to which the present branch goes; returns its number, TooMany() if there are too many."""
        if len(self._shelves) >= MOST_MOMENTS:
            raise TooMany()
        self._shelves.append(shelf)
        self._elders.append(elders)
        self._undone[self._present] = []
        return self._move_to(len(self._shelves) - 1)

    def _move_to(self, number):
        self._at[self._present] = number
        return number

    def undo(self):
        """The present branch goes back to the first elder of its moment; returns its number."""
        left = self.number()
        if len(self._elders[left]) == 0:
            raise NothingDone()
        self._undone[self._present].append(left)
        return self._move_to(self._elders[left][0])

    def redo(self):
        """The present branch goes to the moment that was undone last; returns its number."""
        undone = self._undone[self._present]
        if len(undone) == 0:
            raise NothingDone()
        return self._move_to(undone.pop())

    def branch(self, name):
        """A new branch at the present moment."""
        if not is_name(name) or name in self._at:
            raise BadName(name)
        if len(self._at) >= MOST_BRANCHES:
            raise TooMany()
        self._at[name] = self.number()
        self._undone[name] = []

    def go(self, name):
        """A branch is the present one; returns the number of its moment."""
        self._check_branch(name)
        self._present = name
        return self.number()

    def _check_branch(self, name):
        # Any value may be asked for, also one that can be no key.
        if name not in list(self._at):
            raise UnknownName(name)

    def merge(self, name):
        """A new moment with what was changed in the present branch and in another one; returns its number."""
        self._check_branch(name)
        mine, others = self.number(), self._at[name]
        base = self.common(mine, others)
        if base == others:
            raise NothingDone()
        shelf = _merged(self._shelves[base], self._shelves[mine], self._shelves[others])
        return self._go_on(shelf, (mine, others))

    def common(self, one, other):
        """The number of the common moment of two moments."""
        known = self._behind(one)
        return max([number for number in self._behind(other) if number in known])

    def _behind(self, number):
        """The list of a moment, its elders, the elders of these, and so on."""
        found = [number]
        for k in range(number, 0, -1):
            # Elders have lesser numbers: so all that lead to a moment are gone through ahead of it.
            if k in found:
                found.extend([elder for elder in self._elders[k] if elder not in found])
        return found

    def ask(self, question):
        """What a question is told of the present shelf."""
        return answer_to(self._shelves[self.number()], question)

    def keep(self, label, question):
        """What a question is told, kept by a label, with the number of the present moment."""
        if not is_name(label) or label in self._papers:
            raise BadName(label)
        told = self.ask(question)
        if len(self._papers) >= MOST_PAPERS:
            raise TooMany()
        self._papers[label] = (question, told, self.number())
        return told

    def labels(self):
        """The ascending list of the labels of the papers."""
        return sorted(self._papers)

    def paper(self, label):
        """(question, answer, number) as it is kept by a label."""
        if label not in list(self._papers):
            raise UnknownName(label)
        return self._papers[label]

    def today(self, label):
        """What is told today of a paper: ("gone",), None if it is still right, else the first fault."""
        question, told, _ = self.paper(label)
        try:
            return judged(self._shelves[self.number()], question, told)
        except (RowError, Missing):
            return ("gone",)


def _merged(base, mine, others):
    """My shelf with all that is changed in the others as it is there; raises Clash(names), or TooMany()."""
    changed = _changed(base, others)
    clashing = [name for name in _changed(base, mine) if name in changed and mine.get(name) != others.get(name)]
    if clashing:
        raise Clash(tuple(sorted(clashing)))
    shelf = {name: mine[name] for name in mine if name not in changed}
    shelf.update({name: others[name] for name in changed if name in others})
    if len(shelf) > MOST_THINGS:
        raise TooMany()
    return shelf


def _changed(base, shelf):
    """The list of the names whose things are not equal in two shelves, also those that only one of them has."""
    return [name for name in {**base, **shelf} if base.get(name) != shelf.get(name)]
