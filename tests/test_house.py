"""[10.4], [10.5] and [10.6]: moments and branches of a house, questions, and papers that are kept."""

import random
import unittest
from collections import Counter

from everrows.agreeing import agree, judge_agree, within
from everrows.errors import BadDeed, BadName, Clash, NoMoment, NothingDone, TooMany, UnknownName
from everrows.house import House
from everrows.one import compare
from everrows.reached import always
from tests.housemaking import NAMES, NO_NAMES, Model, raised, random_deed, random_question, some_things
from tests.onemaking import MIX_A, join
from tests.rowmaking import ODD_VALUES
from tests.tablemaking import HAS, LAWFUL, SEES, WIDE, random_reader

OTHER = (HAS, (("a", 0), ("b", 1)), (1,))
EVERY = (HAS, (("a", 1), ("b", 0)), (0, 1))
LONE = (HAS, (("a", 1),), (1,))
CALLS = ("number", "shelf", "branches", "present", "labels")


def rows(text, row="a"):
    return [("row", name, row) for name in text.split()]


def house_of(*doings):
    """A house in which deeds and calls were done."""
    house = House()
    for doing in doings:
        if doing[0] in ("branch", "go", "merge", "keep"):
            getattr(house, doing[0])(*doing[1:])
        elif doing in (("undo",), ("redo",)):
            getattr(house, doing[0])()
        else:
            house.do(doing)
    return house


def all_of(house):
    """All that can be asked of a house without changing it."""
    moments = []
    while raised(house.shelf_at, len(moments))[0] == "returns":
        moments.append((house.shelf_at(len(moments)), house.elders(len(moments))))
    papers = [(house.paper(label), raised(house.today, label)) for label in house.labels()]
    return repr([moments, papers] + [getattr(house, call)() for call in CALLS])


def undone_and_done(house):
    """What undo and redo tell of every branch, told by a house that is thrown away."""
    found = []
    for name in house.branches():
        house.go(name)
        while raised(house.redo)[0] == "returns":
            found.append(house.number())
        while raised(house.undo)[0] == "returns":
            found.append(house.number())
    return found


class Beginning(unittest.TestCase):
    def test_a_new_house(self):
        house = House()
        self.assertEqual([getattr(house, call)() for call in CALLS], [0, {}, ["main"], "main", []])
        self.assertEqual([house.shelf_at(0), house.elders(0), house.common(0, 0)], [{}, (), 0])
        self.assertEqual([raised(house.undo), raised(house.redo)], [("raises", "NothingDone", "{}")] * 2)
        self.assertEqual(raised(house.merge, "main"), ("raises", "NothingDone", "{}"))
        self.assertEqual(all_of(House()), all_of(house))

    def test_any_values(self):
        house = house_of(*rows("p q"), ("branch", "side"), ("keep", "k", ("compare", "p", "q")))
        before = all_of(house)
        for value in ODD_VALUES + NO_NAMES + (3, -1, 3.5, "3", "sid", "sides", ("main",), ["main"], {"main": 1}, 10 ** 39):
            for call in (house.go, house.merge, house.paper, house.today):
                self.assertEqual(raised(call, value), ("raises", "UnknownName", repr({"name": value})), value)
            if value not in ([0, 1, 2] if type(value) is int else []):
                for call in (house.shelf_at, house.elders):
                    self.assertEqual(raised(call, value), ("raises", "NoMoment", repr({"number": value})), value)
            if not (type(value) is str and value.isalpha() and value.islower() and len(value) <= 8):
                self.assertEqual(raised(house.branch, value), ("raises", "BadName", repr({"name": value})), value)
                self.assertEqual(raised(house.keep, value, ("compare", "p", "p")), ("raises", "BadName", repr({"name": value})), value)
            if type(value) is not tuple or value[:1] != ("right",):
                self.assertEqual(raised(house.do, value), ("raises", "BadDeed", "{}"), value)
            self.assertEqual([raised(house.ask, value), raised(house.keep, "new", value)], [("raises", "BadDeed", "{}")] * 2, value)
        self.assertEqual(all_of(house), before)


class Moments(unittest.TestCase):
    def test_do_undo_and_redo(self):
        house = House()
        self.assertEqual([house.do(deed) for deed in rows("p q r")], [1, 2, 3])
        self.assertEqual([house.undo(), house.undo(), sorted(house.shelf()), house.redo(), sorted(house.shelf()), house.undo()], [2, 1, ["p"], 2, ["p", "q"], 1])
        self.assertEqual([house.redo(), house.redo(), house.number()], [2, 3, 3])
        self.assertEqual(raised(house.redo), ("raises", "NothingDone", "{}"))
        self.assertEqual([house.undo(), house.undo(), house.undo(), house.shelf()], [2, 1, 0, {}])
        self.assertEqual(raised(house.undo), ("raises", "NothingDone", "{}"))
        self.assertEqual([house.redo(), house.do(("row", "z", "a")), house.elders(4)], [1, 4, (1,)])
        self.assertEqual(raised(house.redo), ("raises", "NothingDone", "{}"))
        self.assertEqual([sorted(house.shelf_at(k)) for k in range(5)], [[], ["p"], ["p", "q"], ["p", "q", "r"], ["p", "z"]])

    def test_what_is_refused_leaves_what_was_undone(self):
        house = house_of(*rows("p q"), ("undo",))
        for deed in (None, ("row", "P", "a"), ("right", "q", "s"), ("away", "x")):
            raised(house.do, deed)
        raised(house.merge, "main")
        self.assertEqual(house.redo(), 2)

    def test_each_branch_has_its_own_undone_ones(self):
        house = house_of(*rows("p q"), ("undo",), ("branch", "side"), ("go", "side"))
        self.assertEqual(raised(house.redo), ("raises", "NothingDone", "{}"))
        self.assertEqual([house.do(("row", "s", "b")), house.undo(), house.go("main"), house.redo(), house.go("side"), house.redo()], [3, 1, 1, 2, 1, 3])
        self.assertEqual([house.undo(), house.undo(), house.go("main"), house.undo(), house.go("side"), house.redo(), house.redo()], [1, 0, 2, 1, 0, 1, 3])
        self.assertEqual([house.go("main"), house.redo()], [1, 2])

    def test_undo_goes_to_the_first_elder_of_a_merge(self):
        house = house_of(("branch", "side"), *rows("p"), ("go", "side"), *rows("q r"), ("go", "main"), ("merge", "side"))
        self.assertEqual([house.number(), house.elders(4), sorted(house.shelf())], [4, (1, 3), ["p", "q", "r"]])
        self.assertEqual([house.undo(), house.redo(), house.undo()], [1, 4, 1])
        self.assertEqual([house.merge("side"), house.elders(5), raised(house.redo)], [5, (1, 3), ("raises", "NothingDone", "{}")])
        self.assertEqual([house.undo(), house.undo(), house.redo(), house.redo()], [1, 0, 1, 5])

    def test_branches(self):
        house = house_of(*rows("p"))
        self.assertEqual([house.branch(name) for name in ("b", "a", "c", "main" "b")], [None] * 4)
        self.assertEqual([house.branches(), house.present(), house.number()], [["main", "b", "a", "c", "mainb"], "main", 1])
        for name in ("main", "b", "mainb", "B", "", None, "abcdefghi"):
            self.assertEqual(raised(house.branch, name), ("raises", "BadName", repr({"name": name})))
        house.branch("abcdefgh")
        self.assertEqual(raised(house.branch, "x"), ("raises", "TooMany", "{}"))
        for name in ("x y", "a", 6):
            self.assertEqual(raised(house.branch, name), ("raises", "BadName", repr({"name": name})))
        self.assertEqual([house.go("a"), house.do(("away", "p")), house.present(), house.go("c"), house.shelf()], [1, 2, "a", 1, {"p": ("row", "a")}])
        self.assertEqual(house.go("c"), 1)
        self.assertEqual(raised(house.go, "x"), ("raises", "UnknownName", repr({"name": "x"})))
        self.assertEqual(house.present(), "c")

    def test_two_hundred_moments(self):
        house = house_of(("branch", "side"), *[("row", "p", "ab"[k % 2]) for k in range(198)])
        self.assertEqual([house.number(), house.go("side"), house.do(("row", "q", "a")), house.number()], [198, 0, 199, 199])
        before = all_of(house)
        for call, value, told in [
                (house.do, ("row", "r", "a"), "TooMany"), (house.do, ("right", "r", "x"), "UnknownName"), (house.do, None, "BadDeed"), (house.do, ("row", "R", "a"), "BadName"),
                (house.merge, "main", "TooMany"), (house.merge, "x", "UnknownName"), (house.merge, "side", "NothingDone")]:
            self.assertEqual(raised(call, value)[:2], ("raises", told))
        self.assertEqual(all_of(house), before)
        self.assertEqual([house.undo(), house.redo(), house.common(199, 198), raised(house.shelf_at, 200)[1]], [0, 199, 0, "NoMoment"])
        clashing = house_of(("branch", "side"), *[("row", "p", "ab"[k % 2]) for k in range(198)], ("go", "side"), ("row", "p", "c"))
        self.assertEqual(raised(clashing.merge, "main"), ("raises", "Clash", repr({"names": ("p",)})))


class Merging(unittest.TestCase):
    def test_what_is_changed_there(self):
        house = house_of(*rows("p q r s t u"), ("branch", "side"), ("row", "p", "b"), ("away", "q"), ("row", "v", "c"), ("go", "side"),
                         ("row", "r", "b"), ("away", "s"), ("row", "w", "d"), ("row", "t", "b"), ("row", "t", "a"))
        self.assertEqual(house.go("main"), 9)
        number = house.merge("side")
        self.assertEqual([number, house.number(), house.elders(number)], [15, 15, (9, 14)])
        self.assertEqual(house.shelf(), {"p": ("row", "b"), "r": ("row", "b"), "t": ("row", "a"), "u": ("row", "a"), "v": ("row", "c"), "w": ("row", "d")})
        self.assertEqual([house.go("side"), "p" in house.shelf()], [14, True])

    def test_there_and_back(self):
        house = house_of(*rows("p"), ("branch", "side"), *rows("q"), ("go", "side"), *rows("r"), ("merge", "main"))
        self.assertEqual([house.number(), sorted(house.shelf()), house.common(4, 2), house.elders(4)], [4, ["p", "q", "r"], 2, (3, 2)])
        self.assertEqual(raised(house.merge, "main"), ("raises", "NothingDone", "{}"))
        self.assertEqual([house.go("main"), house.merge("side"), house.elders(5), sorted(house.shelf())], [2, 5, (2, 4), ["p", "q", "r"]])
        self.assertEqual([house.common(5, 4), house.common(4, 5), house.common(3, 2), house.common(5, 3)], [4, 4, 1, 3])
        self.assertEqual(raised(house.merge, "side"), ("raises", "NothingDone", "{}"))
        self.assertEqual([house.do(("away", "p")), house.go("side"), house.do(("row", "p", "a")), house.merge("main"), "p" in house.shelf()], [6, 4, 7, 8, False])
        self.assertEqual([house.common(8, 6), house.common(7, 6)], [6, 4])

    def test_a_criss_cross(self):
        house = house_of(("branch", "b"), *rows("p"), ("go", "b"), *rows("q"), ("branch", "c"), ("merge", "main"), ("go", "main"), ("merge", "c"))
        self.assertEqual([house.elders(3), house.elders(4)], [(2, 1), (1, 2)])
        self.assertEqual([house.common(3, 4), house.common(3, 1), house.common(1, 2)], [2, 1, 0])
        self.assertEqual([house.merge("b"), house.shelf() == house.shelf_at(3), house.elders(5)], [5, True, (4, 3)])

    def test_nothing_to_merge(self):
        house = house_of(*rows("p"), ("branch", "side"), *rows("q"))
        for name in ("main", "side"):
            self.assertEqual(raised(house.merge, name), ("raises", "NothingDone", "{}"))
        self.assertEqual([house.go("side"), house.merge("main"), house.elders(3), house.shelf() == house.shelf_at(2)], [1, 3, (1, 2), True])

    def test_clashes(self):
        beginning = [*rows("p q r s t"), ("branch", "side")]
        here = [("row", "p", "b"), ("away", "q"), ("row", "r", "b"), ("away", "s"), ("row", "x", "a"), ("row", "y", "a"), ("go", "side")]
        for there, told in [
                ([("row", "p", "c")], ("p",)), ([("row", "p", "b")], None), ([("away", "p")], ("p",)), ([("away", "q")], None), ([("row", "q", "b")], ("q",)),
                ([("row", "x", "a")], None), ([("row", "x", "b"), ("row", "y", "c")], ("x", "y")), ([("away", "s"), ("away", "t")], None), ([("row", "s", "a")], None),
                ([("row", "y", "b"), ("row", "s", "b"), ("away", "r"), ("row", "p", "b"), ("row", "t", "b")], ("r", "s", "y")), ([("row", "p", "c"), ("row", "p", "a")], None)]:
            house = house_of(*beginning, *here, *there, ("go", "main"))
            before = all_of(house)
            if told:
                self.assertEqual(raised(house.merge, "side"), ("raises", "Clash", repr({"names": told})), there)
                self.assertEqual(all_of(house), before)
                house.go("side")
                self.assertEqual(raised(house.merge, "main"), ("raises", "Clash", repr({"names": told})))
            else:
                number = house.merge("side")
                self.assertEqual(house.shelf()["x"], ("row", "a"))
                self.assertNotIn("q", house.shelf_at(number))

    def test_a_reader_in_the_place_of_a_row_clashes(self):
        house = house_of(*rows("p"), ("branch", "side"), ("reader", "p", SEES), ("go", "side"), ("row", "p", "b"))
        self.assertEqual(raised(house.merge, "main"), ("raises", "Clash", repr({"names": ("p",)})))

    def test_beyond_twelve_names(self):
        beginning = [*rows("a b c d e f g h"), ("branch", "side")]
        house = house_of(*beginning, *rows("i j k"), ("go", "side"), *rows("l m"), ("go", "main"))
        before = all_of(house)
        self.assertEqual(raised(house.merge, "side"), ("raises", "TooMany", "{}"))
        self.assertEqual(all_of(house), before)
        house.do(("away", "a"))
        self.assertEqual([house.merge("side"), len(house.shelf())], [15, 12])
        house = house_of(*beginning, *rows("i j k l"), ("go", "side"), *rows("m"), ("row", "i", "b"), ("go", "main"))
        self.assertEqual(raised(house.merge, "side"), ("raises", "Clash", repr({"names": ("i",)})))
        house = house_of(*beginning, *rows("i j k l"), ("go", "side"), *rows("i j k l"), ("row", "a", "b"), ("go", "main"), ("merge", "side"))
        self.assertEqual(len(house.shelf()), 12)
        house = house_of(*beginning, *rows("i j k l"), ("go", "side"), *rows("m"), ("away", "a"), ("go", "main"), ("merge", "side"))
        self.assertEqual([len(house.shelf()), "a" in house.shelf(), "m" in house.shelf()], [12, False, True])


class Asking(unittest.TestCase):
    def house(self):
        return house_of(("row", "p", "a"), ("row", "q", ("right", "b")), ("row", "z", join("a", "c")), ("reader", "s", SEES), ("reader", "t", OTHER), ("reader", "e", EVERY), ("reader", "l", LONE))

    def test_each_question(self):
        house = self.house()
        for question, told in [
                (("answer", "s", "p"), 1), (("answer", "t", "q"), 1), (("answer", "s", "q"), 0), (("always", "s"), always(SEES)), (("always", "e"), always(EVERY)), (("agree", "s", "t"), agree(SEES, OTHER)),
                (("agree", "s", "s"), agree(SEES, SEES)), (("within", "s", "e"), within(SEES, EVERY)), (("within", "e", "s"), within(EVERY, SEES)), (("compare", "p", "q"), compare("a", ("right", "b"))),
                (("compare", "z", "z"), compare(join("a", "c"), join("a", "c")))]:
            self.assertEqual(house.ask(question), told)

    def test_each_error_in_its_order(self):
        house = self.house()
        before = all_of(house)
        for question, told in [
                (None, ("BadDeed", {})), ((), ("BadDeed", {})), (("answer", "P"), ("BadDeed", {})), (("answer", "P", "p", "p"), ("BadDeed", {})), (("always",), ("BadDeed", {})), (("always", "x", "y"), ("BadDeed", {})),
                (("ask", "s"), ("BadDeed", {})), (["always", "s"], ("BadDeed", {})), ((["always"], "s"), ("BadDeed", {})), (("answer", "x", "P"), ("BadName", {"name": "P"})), (("answer", None, "x"), ("BadName", {"name": None})),
                (("compare", ["p"], "q"), ("BadName", {"name": ["p"]})), (("always", True), ("BadName", {"name": True})), (("answer", "x", "y"), ("UnknownName", {"name": "x"})), (("answer", "p", "y"), ("UnknownName", {"name": "y"})),
                (("answer", "p", "s"), ("BadDeed", {})), (("answer", "s", "s"), ("BadDeed", {})), (("answer", "p", "p"), ("BadDeed", {})), (("answer", "s", "z"), ("BadDeed", {})), (("always", "p"), ("BadDeed", {})),
                (("agree", "s", "p"), ("BadDeed", {})), (("agree", "p", "s"), ("BadDeed", {})), (("agree", "s", "l"), ("BadDeed", {})), (("within", "l", "s"), ("BadDeed", {})), (("within", "p", "q"), ("BadDeed", {})),
                (("compare", "p", "s"), ("BadDeed", {})), (("compare", "s", "p"), ("BadDeed", {})), (("within", "s", "x"), ("UnknownName", {"name": "x"}))]:
            for call in (house.ask, lambda value: house.keep("k", value)):
                self.assertEqual(raised(call, question), ("raises", told[0], repr(told[1])), question)
        self.assertEqual(all_of(house), before)

    def test_keep(self):
        house = self.house()
        self.assertEqual([house.keep("k", ("answer", "s", "p")), house.keep("a", ("always", "s")), house.labels()], [1, always(SEES), ["a", "k"]])
        self.assertEqual([house.paper("k"), house.paper("a")], [(("answer", "s", "p"), 1, 7), (("always", "s"), always(SEES), 7)])
        for label, question, error, borne in [
                ("K", None, "BadName", {"name": "K"}), ("k", None, "BadName", {"name": "k"}), (["k"], ("always", "s"), "BadName", {"name": ["k"]}), ("b", None, "BadDeed", {}), ("b", ("always", "S"), "BadName", {"name": "S"}),
                ("b", ("always", "x"), "UnknownName", {"name": "x"}), ("b", ("always", "p"), "BadDeed", {})]:
            self.assertEqual(raised(house.keep, label, question), ("raises", error, repr(borne)))
        for label in "bcdefg":
            house.keep(label, ("compare", "p", "q"))
        self.assertEqual(house.labels(), list("abcdefgk"))
        for label, question, error in [("h", ("compare", "p", "q"), "TooMany"), ("h", ("compare", "p", "x"), "UnknownName"), ("h", None, "BadDeed"), ("k", ("compare", "p", "q"), "BadName")]:
            self.assertEqual(raised(house.keep, label, question)[:2], ("raises", error))
        self.assertEqual([house.labels(), raised(house.paper, "h"), raised(house.today, "h")], [list("abcdefgk")] + [("raises", "UnknownName", repr({"name": "h"}))] * 2)

    def test_papers_of_every_word_today(self):
        house = self.house()
        kept = {"ans": ("answer", "s", "p"), "alw": ("always", "e"), "not": ("always", "s"), "agr": ("agree", "s", "s"), "wit": ("within", "s", "e"), "par": ("within", "e", "s"),
                "one": ("compare", "p", "p"), "dif": ("compare", "p", "q")}
        for label, question in kept.items():
            house.keep(label, question)
        self.assertEqual([house.today(label) for label in kept], [None] * 8)
        for deed, told in [
                (("row", "p", "b"), {"ans": ("answer", 0), "one": ("letter", "b"), "dif": ("level", 1)}), (("row", "p", join("a", "a")), {"one": ("letter", ("lump", (), ("a", "a"), ()))}),
                (("row", "q", "a"), {"dif": ("word",)}), (("row", "p", join("c", "a")), {"ans": ("gone",), "one": ("letter", ("lump", (), ("c", "a"), ()))}), (("away", "p"), {"ans": ("gone",), "one": ("gone",), "dif": ("gone",)}),
                (("reader", "e", OTHER), {"alw": ("odd", 0), "wit": ("lacks", "a"), "par": None}), (("reader", "e", LONE), {"alw": ("odd", 0), "wit": ("gone",), "par": ("gone",)}),
                (("reader", "s", OTHER), {"ans": ("answer", 0), "not": ("yes", 1), "agr": None, "wit": ("lacks", "a"), "par": ("pair", (0, 1))}),
                (("reader", "s", (LAWFUL[5], (("a", 0), ("b", 1)), (0,))), {"ans": ("answer", 0), "agr": ("mixed", (0, 1), (0, 1)), "wit": ("lacks", "a"), "not": None, "par": None}),
                (("reader", "s", (HAS, (("a", 1), ("b", 0)), ())), {"par": None, "agr": None, "wit": None}), (("row", "s", "a"), {"ans": ("gone",), "not": ("gone",), "agr": ("gone",), "wit": ("gone",), "par": ("gone",)})]:
            house.do(deed)
            today = {label: house.today(label) for label in kept}
            model = Model()
            model.moments[0] = (house.shelf(), ())
            model.kept = [(label, house.paper(label)) for label in house.labels()]
            self.assertEqual(today, {label: model.today(label) for label in kept}, deed)
            for label, fault in told.items():
                self.assertEqual(today[label], fault, (deed, label))
            house.undo()
            self.assertEqual([house.today(label) for label in kept], [None] * 8)

    def test_a_row_that_parts_two_readers_today(self):
        house = self.house()
        word, steps = house.keep("k", ("agree", "s", "t"))
        self.assertEqual([word, house.today("k")], ["parts", None])
        for deed, fault in [(("turn", "t", "s"), "pair"), (("reader", "t", SEES), "pair"), (("reader", "t", LONE), "gone"), (("least", "s", "s"), None), (("reader", "s", (HAS, (("b", 1), ("c", 0)), ())), "gone")]:
            house.do(deed)
            told = house.today("k")
            self.assertEqual(told and told[0], fault, deed)
            self.assertEqual(told, ("gone",) if fault == "gone" else judge_agree(house.shelf()["s"][1], house.shelf()["t"][1], ("parts", steps)))
            house.undo()
        house.do(("reader", "s", (HAS, (("c", 1), ("d", 0)), ())))
        house.do(("reader", "t", (HAS, (("c", 1), ("d", 0)), (1,))))
        self.assertEqual(house.today("k")[0], "letter")

    def test_papers_stay(self):
        house = self.house()
        house.keep("k", ("answer", "s", "p"))
        house.branch("side")
        house.do(("row", "p", "b"))
        self.assertEqual([house.today("k"), house.undo(), house.today("k"), house.redo(), house.today("k")], [("answer", 0), 7, None, 8, ("answer", 0)])
        self.assertEqual([house.go("side"), house.today("k"), house.paper("k")], [7, None, (("answer", "s", "p"), 1, 7)])
        while house.number():
            house.undo()
        self.assertEqual([house.today("k"), house.labels(), house.paper("k")[2]], [("gone",), ["k"], 7])
        self.assertEqual([house.merge("main"), house.today("k")], [9, ("answer", 0)])


class AgainstTheDocument(unittest.TestCase):
    def test_any_doings(self):
        rng, seen = random.Random(230), Counter()
        for turn in range(60):
            house, model = House(), Model()
            odd = 0.03 if turn % 3 else 0.2
            for name, thing in zip(NAMES if turn % 4 else (), some_things(rng)):
                house.do((thing[0], name, thing[1]))
                model.do((thing[0], name, thing[1]))
            for _ in range(150):
                call, *arguments = self.doing(rng, model, odd)
                told = raised(getattr(house, call), *arguments)
                self.assertEqual(told, raised(getattr(model, call), *arguments), (call, arguments))
                seen[call, told[1] if told[0] == "raises" else ""] += 1
            for call in CALLS:
                self.assertEqual(getattr(house, call)(), getattr(model, call)())
            self.assertEqual([(house.shelf_at(k), house.elders(k)) for k in range(len(model.moments))], model.moments)
            for _ in range(20):
                one, other = rng.randrange(len(model.moments)), rng.randrange(len(model.moments))
                self.assertEqual(house.common(one, other), model.common(one, other))
            self.assertEqual(undone_and_done(house), undone_and_done(model))
        for wanted in [("do", ""), ("undo", ""), ("undo", "NothingDone"), ("redo", ""), ("redo", "NothingDone"), ("branch", ""), ("branch", "BadName"), ("branch", "TooMany"), ("go", ""), ("go", "UnknownName"),
                       ("merge", ""), ("merge", "NothingDone"), ("merge", "Clash"), ("merge", "UnknownName"), ("keep", ""), ("keep", "BadName"), ("keep", "TooMany"), ("ask", ""), ("ask", "BadDeed"),
                       ("ask", "UnknownName"), ("paper", ""), ("paper", "UnknownName"), ("today", ""), ("today", "UnknownName"), ("shelf_at", ""), ("shelf_at", "NoMoment"), ("elders", ""), ("elders", "NoMoment")]:
            self.assertGreater(seen[wanted], 2, wanted)

    def doing(self, rng, model, odd):
        names = model.branches() + (["x"] if rng.random() < 0.1 else []) if rng.random() > odd else list(NO_NAMES)
        call = rng.choice(["do"] * 8 + ["undo", "undo", "redo"] + ["branch"] * 3 + ["go", "go", "merge", "merge", "ask", "keep", "keep", "keep", "today", "paper", "shelf_at", "elders"])
        if call == "do":
            return call, random_deed(rng, model.shelf(), odd)
        if call == "ask":
            return call, random_question(rng, model.shelf(), odd)
        if call == "branch":
            return call, rng.choice(tuple("abcdefgh") + NO_NAMES[:2])
        if call in ("go", "merge"):
            return call, rng.choice(names)
        if call == "keep":
            return call, rng.choice("abcdefghijkl" if rng.random() > odd else NO_NAMES), random_question(rng, model.shelf(), odd)
        if call in ("today", "paper"):
            return call, rng.choice((model.labels() or ["a"]) + ["zz"])
        if call in ("shelf_at", "elders"):
            return call, rng.choice((0, 1, True, -1, len(model.moments) - 1, len(model.moments), None, "0"))
        return (call,)


class Belongings(unittest.TestCase):
    def test_what_is_returned_belongs_to_the_caller(self):
        house = house_of(*rows("p q"), ("branch", "side"), ("keep", "k", ("compare", "p", "q")))
        before = all_of(house)
        for made in (house.shelf(), house.shelf_at(1), house.shelf_at(2), house.branches(), house.labels()):
            made.clear()
        house.shelf()["z"] = ("row", "a")
        house.branches().append("x")
        self.assertEqual(all_of(house), before)
        self.assertIsNot(house.shelf(), house.shelf())

    def test_two_houses(self):
        one, other = House(), House()
        one.do(("row", "p", "a"))
        one.branch("side")
        self.assertEqual([other.shelf(), other.branches(), raised(other.undo)[1]], [{}, ["main"], "NothingDone"])

    def test_kinds_of_errors(self):
        house = House()
        for error, call, *arguments in [(BadDeed, house.do, None), (BadName, house.branch, "main"), (NoMoment, house.elders, 1), (NothingDone, house.undo), (UnknownName, house.go, "x"), (UnknownName, house.paper, "x")]:
            with self.assertRaises(error):
                call(*arguments)
        house = house_of(*rows("p"), ("branch", "b"), ("row", "p", "b"), ("go", "b"), ("row", "p", "c"), *[("branch", name) for name in "cdef"])
        with self.assertRaises(Clash):
            house.merge("main")
        with self.assertRaises(TooMany):
            house.branch("g")

    def test_readers_of_six_answers_over_five_letters(self):
        rng = random.Random(231)
        house = House()
        for name, table in zip("abcdef", [LAWFUL[3], WIDE[3], WIDE[6], WIDE[7], WIDE[8], WIDE[9]]):
            house.do(("reader", name, random_reader(rng, "abcde", [table])))
        house.do(("row", "r", ("right", join("a", MIX_A, "b", ("left", join("c", "d", ("right", "e")))))))
        for one in "abcdef":
            self.assertIs(type(house.ask(("answer", one, "r"))), int)
            self.assertIn(house.ask(("always", one))[0], ("always", "not"))
            for other in "abcdef":
                self.assertIn(house.ask(("agree", one, other))[0], ("agree", "parts"))
        for k, one in enumerate("abcdef"):
            house.keep("k" + one, ("agree", one, "abcdefa"[k + 1]))
            house.do(("least", one, one))
        self.assertTrue(all(fault is None or isinstance(fault, tuple) for fault in map(house.today, house.labels())))
        self.assertEqual([house.today(label)[0] if house.paper(label)[1][0] == "agree" else house.today(label) for label in house.labels()].count(("gone",)), 0)


if __name__ == "__main__":
    unittest.main()
