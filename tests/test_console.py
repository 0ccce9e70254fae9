"""[10.7]: what is said to a console, and what it answers."""

import random
import unittest
from collections import Counter

from everrows.console import Console
from everrows.deeds import deed_text, read_deed, thing_text
from everrows.errors import BadText, Missing, RowError
from everrows.house import House
from everrows.levels import form
from everrows.lumps import letter_text
from everrows.places import is_place, letter_at
from everrows.sides import ahead, behind
from everrows.texts import row_text
from tests.housemaking import NAMES, NO_NAMES, Model, name_as_told, names_in, random_deed, random_question, shape_as_told, some_things
from tests.rowmaking import ODD_VALUES, random_place
from tests.test_house import all_of

SEES = "a1,b0 01/11 01 01 011 1"
ASKING = {"answer": 2, "always": 1, "agree": 2, "within": 2, "compare": 2}


def place_as_told(text):
    if text == "-":
        return ()
    parts = text.split(".")
    for part in parts:
        if not part or len(part) > 9 or set(part) - set("0123456789") or (part[0] == "0" and part != "0"):
            return None
    return tuple(map(int, parts))


def line_as_told(model, line):
    """[10.7], straight from the document: the answer of a console whose house is a model."""
    if type(line) is not str:
        return "what"
    word, *rest = line.split(" ")
    names = [name for name in rest if name_as_told(name)]
    try:
        if word in ("undo", "redo") and not rest:
            return str(getattr(model, word)())
        if word in ("branch", "go", "merge") and len(rest) == len(names) == 1:
            getattr(model, word)(rest[0])
            return str(model.number())
        if word == "show" and not rest:
            return " ".join(sorted(model.shelf()))
        if word == "show" and len(rest) == len(names) == 1:
            return thing_text(model.shelf()[rest[0]])
        if word in ("letter", "ahead", "behind") and len(rest) == 2 and name_as_told(rest[0]) and place_as_told(rest[1]) is not None:
            return at_place(model, word, rest[0], place_as_told(rest[1]))
        if word == "form" and len(rest) == len(names) == 1:
            kind, row = model.shelf()[rest[0]]
            return letter_text(form(row)) if kind == "row" else "refused"
        if word in ASKING and len(rest) == len(names) == ASKING[word]:
            return asked(model, (word, *rest), model.ask((word, *rest)))
        if word == "keep" and len(rest) > 1 and rest[1] in ASKING and len(rest) == len(names) == ASKING[rest[1]] + 2:
            return asked(model, tuple(rest[1:]), model.keep(rest[0], tuple(rest[1:])))
        if word == "today" and len(rest) == len(names) == 1:
            fault = model.today(rest[0])
            return fault[0] if fault else "right"
        try:
            deed = read_deed(line)
        except BadText:
            return "what"
        return str(model.do(deed))
    except (RowError, Missing, KeyError):
        return "refused"


def at_place(model, word, name, place):
    kind, row = model.shelf()[name]
    if kind != "row" or not is_place(row, place):
        return "refused"
    if word == "letter":
        return letter_at(row, place)
    found = ahead(row, place) if word == "ahead" else behind(row, place)
    return row_text(found) if found else "none"


def asked(model, question, told):
    if question[0] != "answer":
        return told[0]
    return f"{told} {'yes' if told in model.shelf()[question[1]][1][2] else 'no'}"


def console_of(*lines):
    console = Console()
    for line in lines:
        console.say(line)
    return console


class Saying(unittest.TestCase):
    def said(self, console, *told):
        for line, answer in told:
            self.assertEqual(console.say(line), answer, line)

    def test_each_kind_of_line(self):
        self.said(
            Console(), ("show", ""), ("row p a (a b)>", "1"), ("reader s " + SEES, "2"), ("right q p", "3"), ("left l p", "4"), ("join j p q p", "5"), ("mix m p", "6"), ("put t p 1.0.1 p", "7"),
            ("show t", "a a a (a b)> (a b)>"), ("turn t t", "8"), ("show t", "<(b a) <(b a) a a a"), ("least z s", "9"), ("show z", SEES), ("turn z s", "10"), ("beside z s or s", "11"), ("show", "j l m p q s t z"),
            ("away t", "12"), ("show p", "a (a b)>"), ("show q", "(a (a b)>)>"), ("show l", "<(a (a b)>)"), ("show j", "(a (a b)>) (a (a b)>)> (a (a b)>)"),
            ("show m", "[a (a b)>]"), ("show s", SEES), ("letter p 0", "a"), ("letter p 1.7.1", "b"), ("letter m 1.1.1.0.0", "a"), ("ahead p 0", "none"), ("behind p 0", "(a b)>"), ("ahead p 1.1.0", "a a b"),
            ("behind m 3.2.0", "(a b)> [a (a b)>]"), ("ahead m 1.1.0", "[a (a b)>]"), ("form p", "{a (a b)>}"), ("form m", "[{a (a b)>}]"), ("form q", "{({a (a b)>})>}"), ("answer s p", "1 yes"), ("row b b", "13"), ("answer s b", "0 no"),
            ("always s", "not"), ("reader e a1,b0 01/11 01 01 011 01", "14"), ("always e", "always"), ("agree s z", "agree"), ("agree s e", "parts"), ("within s e", "within"), ("within e s", "parts"), ("compare p p", "one"),
            ("compare p q", "differ"), ("keep k answer s b", "0 no"), ("keep a always s", "not"), ("keep c agree s z", "agree"), ("keep d within s e", "within"), ("keep e compare p p", "one"), ("today k", "right"),
            ("row b a", "15"), ("today k", "answer"), ("away p", "16"), ("today e", "gone"), ("today a", "right"), ("row p b", "17"), ("today e", "letter"), ("undo", "16"), ("undo", "15"), ("today e", "right"), ("redo", "16"),
            ("branch side", "16"), ("row x a", "18"), ("go side", "16"), ("row y a", "19"), ("merge main", "20"), ("show x", "a"), ("go main", "18"), ("merge side", "21"), ("show", "b e j l m q s x y z"))

    def test_what_is_refused(self):
        console = console_of("row p a", "reader s " + SEES, "row c c", "branch side", "keep k compare p p")
        before = all_of(console.house())
        self.said(console, *[(line, "refused") for line in [
            "right q x", "away x", "join q p s", "least q p", "put q p 0 p", "put q s - p", "put q p - s", "beside q s and p", "redo", "branch main", "branch side", "go x", "merge x", "merge main", "merge side", "show x", "letter x -",
            "letter p 0", "letter s -", "letter s 0", "ahead p 1.1", "ahead x 0", "behind s -", "form s", "form x", "answer s x", "answer p s", "answer s c", "always p", "always x", "agree s p", "within s x", "compare s s",
            "keep k compare p p", "keep x compare p x", "keep x answer s c", "keep k always x", "today x", "today p", "turn q x", "mix q x"]])
        self.assertEqual(all_of(console.house()), before)
        console = console_of("row p a", *[f"{'right' if k % 2 else 'left'} p p" for k in range(6)], *["branch " + name for name in "abcde"])
        self.said(console, ("right p p", "refused"), ("join p p p", "refused"), ("branch f", "refused"), ("letter p 0.0.0.0.0.0", "a"))

    def test_what_is_no_line(self):
        console = console_of("row p a", "reader s " + SEES, "branch side")
        before = all_of(console.house())
        lines = ["", " ", "show ", " show", "show  p", "show p ", "show P", "show p s", "Show", "SHOW p", "show\n", "show\tp", "undo ", "undo 1", "redo p", "branch", "branch ", "branch P", "branch a b", "branch abcdefghi", "go", "go Main", "go main ",
                 "merge", "merge side side", "merge 1", "letter", "letter p", "letter p ", "letter p -1", "letter p 01", "letter p 0.", "letter p 0 0", "letter P -", "letter p 1234567890", "letter p a", "letter  p 0", "letter p 0,0", "letter p --",
                 "ahead p", "behind p", "behind p 00", "ahead p 0.0.", "form", "form p s", "form P", "answer s", "answer s p p", "answer S p", "answer s  p", "always", "always s s", "always s ", "agree s", "agree s s s", "within s", "compare p",
                 "compare p p ", "keep", "keep k", "keep k always", "keep K always s", "keep  always s", "keep k always S", "keep k always s s", "keep k show", "keep k show p", "keep k undo", "keep k form p", "keep k keep k always s", "keep always s",
                 "keep k  always s", "today", "today K", "today k k", "stay", "what", "refused", "row p", "row p ab", "row P a", "row p a ", "row p  a", "right q", "right q p p", "join q p", "put q p 0", "put q p 00 p", "put q p 1234567890 p", "beside q s xor s",
                 "reader s", "reader s " + SEES + " ", "away", "away P", "mix q", "turn q", "least", "row p " + "a " * 24 + "a", "1", "-", "a", "None"]
        self.said(console, *[(line, "what") for line in lines])
        for value in ODD_VALUES + NO_NAMES + (["undo"], ("undo",), {"show": 1}, b"show", ["show"], ("row", "p", "a"), ("compare", "p", "p")):
            self.assertEqual(console.say(value), "what", value)
        self.assertEqual(all_of(console.house()), before)

    def test_refused_ahead_of_what_it_would_have_been(self):
        self.said(Console(), ("undo", "refused"), ("redo", "refused"), ("merge main", "refused"), ("go main", "0"), ("show", ""), ("row main a", "1"), ("branch show", "1"), ("go show", "1"), ("show show", "refused"),
                  ("row show b", "2"), ("show show", "b"), ("compare show main", "differ"), ("keep today compare show show", "one"), ("today today", "right"), ("away show", "3"), ("today today", "gone"))

    def test_places_with_many_figures(self):
        console = console_of("row p (a b)>", "row q [a]")
        self.said(console, ("letter p 999999999.1", "b"), ("letter q 1.999999999", "a"), ("letter q 2.999999999", "refused"), ("letter q 999999999.29", "refused"), ("letter q 999999999.30", "a"), ("put r p 999999999.0 q", "refused"),
                  ("letter p 9999999990.1", "what"), ("ahead q 1.999999999", "[a]"), ("ahead p 9.1", "a b " * 9 + "a"))

    def test_the_house(self):
        console = Console()
        self.assertIsInstance(console.house(), House)
        self.assertIs(console.house(), console.house())
        console.say("row p a")
        self.assertEqual([console.house().number(), console.house().shelf()], [1, {"p": ("row", "a")}])
        console.house().do(("right", "q", "p"))
        self.assertEqual([console.say("show q"), Console().say("show"), Console().house().number()], ["(a)>", "", 0])
        self.assertIsNot(Console().house(), console.house())

    def test_lines_against_the_document(self):
        rng, seen = random.Random(240), Counter()
        for turn in range(25):
            console, model = Console(), Model()
            for name, (kind, told) in zip(NAMES if turn % 4 else (), some_things(rng)):
                self.assertEqual(console.say(deed_text((kind, name, told))), line_as_told(model, deed_text((kind, name, told))))
            for _ in range(120):
                line = self.line(rng, model)
                told = console.say(line)
                self.assertEqual(told, line_as_told(model, line), line)
                if isinstance(line, str):
                    seen[line.split(" ")[0], told if told in ("refused", "what") else ""] += 1
            self.assertEqual([console.house().shelf(), console.house().number(), console.house().branches(), console.house().labels()],
                             [model.shelf(), model.number(), model.branches(), model.labels()])
        for word in ("undo", "redo", "branch", "go", "merge", "show", "letter", "ahead", "behind", "form", "answer", "always", "agree", "within", "compare", "keep", "today", "row", "right", "put", "beside", "away"):
            self.assertGreater(seen[word, ""], 1, word)
            self.assertGreater(seen[word, "what"], 0, word)
        self.assertGreater(sum(seen[word, "refused"] for word, _ in list(seen)), 100)

    def line(self, rng, model):
        word = rng.choice(["deed"] * 6 + ["ask"] * 4 + ["keep", "keep", "undo", "redo", "branch", "go", "merge", "show", "show", "letter", "ahead", "behind", "form", "today", "today"])
        shelf = model.shelf()
        name = rng.choice(sorted(shelf) + ["x"])
        if word == "deed":
            deed = random_deed(rng, shelf, 0.05)
            line = deed_text(deed) if shape_as_told(deed) and all(map(name_as_told, names_in(deed))) else rng.choice(("away P", "put p p p", "right p", "stay"))
        elif word in ("ask", "keep"):
            line = ("keep " + rng.choice("abcdefghijk") + " " if word == "keep" else "") + " ".join(map(str, random_question(rng, shelf, 0.03) or ()))
        elif word in ("undo", "redo"):
            line = word
        elif word in ("branch", "go", "merge"):
            line = word + " " + rng.choice(model.branches() + ["a", "b", "c"])
        elif word == "today":
            line = word + " " + rng.choice(model.labels() + ["x"])
        elif word in ("letter", "ahead", "behind"):
            place = random_place(rng, shelf[name][1], 3, 3) if name in shelf and shelf[name][0] == "row" else (0,)
            line = f"{word} {name} " + (".".join(map(str, place)) or "-")
        else:
            line = word + ("" if rng.random() < 0.3 else " " + name)
        if rng.random() < 0.12:
            k = rng.randrange(len(line) + 1)
            line = rng.choice((line[:k] + line[k + 1:], line + " ", line + " p", line[:k] + rng.choice(" aA0.-") + line[k:]))
        return line if rng.random() < 0.98 else rng.choice(ODD_VALUES)


class Long(unittest.TestCase):
    def test_lines_of_two_thousand_characters(self):
        console = console_of("row p a", "reader s " + SEES)
        for line in ("show " + "p" * 1995, "row p " + "(" * 1990, "row p " + "a " * 990 + "a", "letter p " + "1." * 990 + "1", "keep k " + "compare " * 240, " " * 2000, "join p" + " p" * 990, "a" * 2000):
            self.assertIn(console.say(line), ("what", "refused"))
        self.assertEqual(console.say("show"), "p s")

    def test_great_things(self):
        five = "reader s a0,b1,c2,d3,e4 " + "/".join(["000000"] * 6) + " 000000 000000 " + "0" * 63 + " 05"
        console = console_of("row p (a (b c d [a, b c, e d c] e d)> b c d e a)>", five, "reader t" + five[8:])
        for line, answer in [
                ("show", "p s t"), ("answer s p", "0 yes"), ("always s", "not"), ("agree s t", "agree"), ("within s t", "within"), ("compare p p", "one"), ("least r s", "4"), ("beside u s and t", "5"), ("turn v p", "6"),
                ("show v", "<(a e d c b <(d e [a, c b, c d e] d c b) a)"), ("answer t v", "0 yes"), ("right w p", "refused"), ("join w p p", "refused"), ("compare p v", "differ"), ("show r", "a0,b1,c1,d1,e1 00/00 00 00 000 0")]:
            self.assertEqual(console.say(line), answer, line)
        self.assertEqual(console.say("form p"), letter_text(form(console.house().shelf()["p"][1])))


if __name__ == "__main__":
    unittest.main()
