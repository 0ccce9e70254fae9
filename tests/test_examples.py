"""The examples of the interface, each as it is written there."""

import unittest

EXAMPLES = '''
    >>> from everrows.errors import BadName, BadText, Clash
    >>> [BadText(3).place, Clash(("a", "b")).names, BadName(["a", None]).name]
    [3, ('a', 'b'), ['a', None]]

    >>> from everrows.rows import copies, depth_of, is_row, joined, row_letters, size_of
    >>> AB, EVER = ("join", ("a", "b")), ("join", ("c", ("right", ("join", ("a", "b")))))
    >>> [size_of(EVER), depth_of(EVER), row_letters(EVER), size_of("a"), depth_of("a")]
    [6, 3, ['a', 'b', 'c'], 1, 0]
    >>> [is_row(EVER), is_row(("mix", ("a",))), is_row(("join", ("a",))), is_row(("right", ["a"])), is_row("ab")]
    [True, True, False, False, False]
    >>> [joined([AB]), joined([AB, "c"]), copies("a", 3), copies(AB, 1)]
    [('join', ('a', 'b')), ('join', (('join', ('a', 'b')), 'c')), ('join', ('a', 'a', 'a')), ('join', ('a', 'b'))]

    >>> from everrows.texts import read_row, row_text
    >>> [row_text(EVER), row_text(joined([AB, "c"])), row_text(("left", "a")), row_text(("mix", (AB, ("right", "c"))))]
    ['c (a b)>', '(a b) c', '<(a)', '[a b, (c)>]']
    >>> [read_row("c (a b)>") == EVER, read_row("(a b) c"), read_row("[a, <(b)]")]
    [True, ('join', (('join', ('a', 'b')), 'c')), ('mix', ('a', ('left', 'b')))]
    >>> read_row("(a)")
    raises BadText(place=3)
    >>> read_row("[(a b)]")
    raises BadText(place=6)
    >>> read_row("a  b")
    raises BadText(place=2)

    >>> from everrows.places import comes_ahead, count, first_place, is_place, last_place, letter_at, next_place, place_before, places
    >>> AB = ("join", ("a", "b"))
    >>> ROUND, BACK, MIX = ("right", AB), ("left", AB), ("mix", ("a", ("right", "b")))
    >>> [letter_at(ROUND, (2, 1)), letter_at(MIX, (1, 1)), letter_at(MIX, (3, 2, 4)), is_place(MIX, (2, 2, 0)), is_place(MIX, (1, 1, 0))]
    ['b', 'a', 'b', False, False]
    >>> [comes_ahead(MIX, (1, 2, 7), (1, 1)), comes_ahead(BACK, (2, 1), (1, 0)), comes_ahead(ROUND, (0, 1), (0, 1))]
    [True, True, False]
    >>> [first_place(ROUND), last_place(BACK), first_place(BACK), first_place(("join", (BACK, "a")))]
    [(0, 0), (0, 1), None, None]
    >>> [next_place(ROUND, (0, 1)), next_place(BACK, (0, 1)), next_place(MIX, (1, 2, 0)), next_place(MIX, (1, 1)), place_before(BACK, (1, 0))]
    [(1, 0), None, (1, 2, 1), None, (2, 1)]
    >>> [count(AB), count(MIX), count(("join", (AB, AB)))]
    [2, None, 4]
    >>> [places(ROUND, 2, 0), places(("mix", ("a",)), 1, 2), places(("join", (BACK, "c")), 1, 1)]
    [[(0, 0), (0, 1), (1, 0), (1, 1)], [(1, 2), (1, 1), (3, 2)], [(0, 0, 0), (0, 0, 1), (1,)]]

    >>> from everrows.sides import ahead, are_near, behind, between, laid, many_between, put_at
    >>> [laid([AB, "c", ("join", ("a", AB))]), laid([ROUND]), laid([])]
    [('join', ('a', 'b', 'c', 'a', 'a', 'b')), ('right', ('join', ('a', 'b'))), None]
    >>> [ahead(ROUND, (1, 1)), behind(ROUND, (1, 1)), ahead(ROUND, (0, 0)), behind(BACK, (2, 0))]
    [('join', ('a', 'b', 'a')), ('right', ('join', ('a', 'b'))), None, ('join', ('b', 'a', 'b', 'a', 'b'))]
    >>> [ahead(MIX, (1, 1)) == MIX, ahead(MIX, (1, 2, 1)) == ("join", (MIX, "b")), behind(MIX, (1, 2, 1)) == ("join", (("right", "b"), MIX))]
    [True, True, True]
    >>> [between(ROUND, (0, 1), (2, 0)), between(ROUND, (0, 0), (0, 1)), between(MIX, (1, 2, 0), (1, 2, 2)), many_between(ROUND, (0, 0), (5, 1))]
    [('join', ('a', 'b')), None, 'b', 10]
    >>> [put_at(AB, (1,), "c"), put_at(ROUND, (0, 0), ("left", "c")), many_between(MIX, (1, 2, 0), (1, 1))]
    [('join', ('a', 'c')), ('join', (('left', 'c'), 'b', ('right', ('join', ('a', 'b'))))), None]
    >>> [are_near(ROUND, (5, 1), (0, 0)), are_near(MIX, (1, 2, 0), (1, 1)), are_near(MIX, (1, 2, 3), (1, 2, 0))]
    [True, False, True]
'''

MARK = "    >>> "


def told(expression, names):
    """What the interface would write behind an expression."""
    try:
        return repr(eval(expression, names))
    except (ValueError, LookupError) as error:
        borne = ", ".join(f"{name}={value!r}" for name, value in vars(error).items())
        return f"raises {type(error).__name__}({borne})"


class Examples(unittest.TestCase):
    def test_each_as_it_is_written(self):
        names, lines, looked_at = {}, EXAMPLES.split("\n"), 0
        for line, following in zip(lines, lines[1:]):
            if not line.startswith(MARK):
                continue
            if following.startswith("    ") and not following.startswith(MARK):
                with self.subTest(line):
                    self.assertEqual(told(line[len(MARK):], names), following.strip())
                looked_at += 1
            else:
                exec(line[len(MARK):], names)
        self.assertEqual(looked_at, EXAMPLES.count(MARK) - EXAMPLES.count(" import ") - EXAMPLES.count(", EVER = ")
                         - EXAMPLES.count("    >>> AB = ") - EXAMPLES.count("    >>> ROUND, BACK"))


if __name__ == "__main__":
    unittest.main()
