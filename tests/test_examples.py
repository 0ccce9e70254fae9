"""The examples of the interface, each as it is written there."""

import doctest
import pathlib
import unittest

EXAMPLES = '''
    >>> from everrows.errors import BadName, BadText, Clash
    >>> [BadText(3).place, Clash(("a", "b")).names, BadName(["a", None]).name]
    [3, ('a', 'b'), ['a', None]]

    >>> from everrows.rows import copies, depth_of, is_row, joined, row_letters, size_of
    >>> AB, EVER = ("join", ("a", "b")), ("join", ("c", ("right", ("join", ("a", "b")))))
    >>> [size_of(EVER), depth_of(EVER), row_letters(EVER), size_of("a"), depth_of("a")]
    [6, 3, ['a', 'b', 'c'], 1, 0]
    >>> [is_row(EVER), is_row(("mix", ("a",))), is_row(("join", ("a",))), is_row(("right", ["a"])), is_row("ab")]
    [True, True, False, False, False]
    >>> [joined([AB]), joined([AB, "c"]), copies("a", 3), copies(AB, 1)]
    [('join', ('a', 'b')), ('join', (('join', ('a', 'b')), 'c')), ('join', ('a', 'a', 'a')), ('join', ('a', 'b'))]

    >>> from everrows.texts import read_row, row_text
    >>> [row_text(EVER), row_text(joined([AB, "c"])), row_text(("left", "a")), row_text(("mix", (AB, ("right", "c"))))]
    ['c (a b)>', '(a b) c', '<(a)', '[a b, (c)>]']
    >>> [read_row("c (a b)>") == EVER, read_row("(a b) c"), read_row("[a, <(b)]")]
    [True, ('join', (('join', ('a', 'b')), 'c')), ('mix', ('a', ('left', 'b')))]
    >>> read_row("(a)")
    raises BadText(place=3)
    >>> read_row("[(a b)]")
    raises BadText(place=6)
    >>> read_row("a  b")
    raises BadText(place=2)

    >>> from everrows.places import comes_ahead, count, first_place, is_place, last_place, letter_at, next_place, place_before, places
    >>> AB = ("join", ("a", "b"))
    >>> ROUND, BACK, MIX = ("right", AB), ("left", AB), ("mix", ("a", ("right", "b")))
    >>> [letter_at(ROUND, (2, 1)), letter_at(MIX, (1, 1)), letter_at(MIX, (3, 2, 4)), is_place(MIX, (2, 2, 0)), is_place(MIX, (1, 1, 0))]
    ['b', 'a', 'b', False, False]
    >>> [comes_ahead(MIX, (1, 2, 7), (1, 1)), comes_ahead(BACK, (2, 1), (1, 0)), comes_ahead(ROUND, (0, 1), (0, 1))]
    [True, True, False]
    >>> [first_place(ROUND), last_place(BACK), first_place(BACK), first_place(("join", (BACK, "a")))]
    [(0, 0), (0, 1), None, None]
    >>> [next_place(ROUND, (0, 1)), next_place(BACK, (0, 1)), next_place(MIX, (1, 2, 0)), next_place(MIX, (1, 1)), place_before(BACK, (1, 0))]
    [(1, 0), None, (1, 2, 1), None, (2, 1)]
    >>> [count(AB), count(MIX), count(("join", (AB, AB)))]
    [2, None, 4]
    >>> [places(ROUND, 2, 0), places(("mix", ("a",)), 1, 2), places(("join", (BACK, "c")), 1, 1)]
    [[(0, 0), (0, 1), (1, 0), (1, 1)], [(1, 2), (1, 1), (3, 2)], [(0, 0, 0), (0, 0, 1), (1,)]]

    >>> from everrows.sides import ahead, are_near, behind, between, laid, many_between, put_at
    >>> [laid([AB, "c", ("join", ("a", AB))]), laid([ROUND]), laid([])]
    [('join', ('a', 'b', 'c', 'a', 'a', 'b')), ('right', ('join', ('a', 'b'))), None]
    >>> [ahead(ROUND, (1, 1)), behind(ROUND, (1, 1)), ahead(ROUND, (0, 0)), behind(BACK, (2, 0))]
    [('join', ('a', 'b', 'a')), ('right', ('join', ('a', 'b'))), None, ('join', ('b', 'a', 'b', 'a', 'b'))]
    >>> [ahead(MIX, (1, 1)) == MIX, ahead(MIX, (1, 2, 1)) == ("join", (MIX, "b")), behind(MIX, (1, 2, 1)) == ("join", (("right", "b"), MIX))]
    [True, True, True]
    >>> [between(ROUND, (0, 1), (2, 0)), between(ROUND, (0, 0), (0, 1)), between(MIX, (1, 2, 0), (1, 2, 2)), many_between(ROUND, (0, 0), (5, 1))]
    [('join', ('a', 'b')), None, 'b', 10]
    >>> [put_at(AB, (1,), "c"), put_at(ROUND, (0, 0), ("left", "c")), many_between(MIX, (1, 2, 0), (1, 1))]
    [('join', ('a', 'c')), ('join', (('left', 'c'), 'b', ('right', ('join', ('a', 'b'))))), None]
    >>> [are_near(ROUND, (5, 1), (0, 0)), are_near(MIX, (1, 2, 0), (1, 1)), are_near(MIX, (1, 2, 3), (1, 2, 0))]
    [True, False, True]

    >>> from everrows.lots import is_lot, lot_of, lots, number_of
    >>> [lots(2), [number_of(lot) for lot in lots(3)], lot_of([2, 0, 2])]
    [[(0,), (1,), (0, 1)], [0, 1, 2, 3, 4, 5, 6], (0, 2)]
    >>> [is_lot((0,), 2), is_lot((0, 1), 2), is_lot((1, 0), 2), is_lot((), 2), is_lot((2,), 2), is_lot((False,), 2), is_lot([0], 2)]
    [True, True, False, False, False, False, False]

    >>> from everrows.tables import both_of, count_of, is_table, joined_of, left_of, mixed_of, power_of, right_of, round_of, still_power
    >>> HAS = (((0, 1), (1, 1)), (0, 1), (0, 1), (0, 1, 1))
    >>> FIRST = (((0, 0, 0), (1, 1, 1), (2, 2, 2)), (0, 1, 2), (0, 0, 0), (0, 0, 0, 0, 0, 0, 0))
    >>> [is_table(HAS), is_table(FIRST), is_table(HAS[:3]), is_table((((0, 2), (1, 1)), (0, 1), (0, 1), (0, 1, 1)))]
    [True, True, False, False]
    >>> [count_of(FIRST), both_of(FIRST, 1, 2), right_of(FIRST, 2), left_of(FIRST, 2), mixed_of(HAS, [1, 0, 1]), joined_of(FIRST, [2, 1, 0])]
    [3, 1, 2, 0, 1, 2]
    >>> TURN = (((0, 1), (1, 0)), (0, 0), (0, 0), (0, 0, 0))
    >>> [power_of(TURN, 1, 7), round_of(TURN, 1), still_power(TURN, 1), round_of(HAS, 1)]
    [1, (1, 2), 0, (1, 1)]

    >>> from everrows.lawful import broken_rules, first_broken, holds, judge_broken
    >>> [first_broken(HAS), first_broken(FIRST), first_broken(TURN), broken_rules(TURN)]
    [None, None, (2, (1, 0)), [2, 4, 6]]
    >>> BENT = (((0, 1), (1, 1)), (0, 1), (0, 1), (0, 1, 0))
    >>> [first_broken(BENT), holds(BENT, 6, ((0, 1), 0)), judge_broken(BENT, (6, ((0, 1), 1))), judge_broken(BENT, (6, ((0, 1), 0)))]
    [(6, ((0, 1), 1)), True, None, ('holds',)]
    >>> [judge_broken(HAS, None), judge_broken(BENT, None), judge_broken(BENT, (6, (0, 1))), judge_broken(BENT, (3, (0, 4)))]
    [None, ('lawless',), ('form',), ('form',)]
    >>> [judge_broken(HAS, (6, ((0,), 1))), judge_broken(HAS, (9, ((0,), (1,)))), judge_broken(HAS, (9, ((0,), (0,))))]
    [('form',), ('form',), ('holds',)]

    >>> from everrows.parted import closed_lot, part_of, renumbered, side_by_side
    >>> [renumbered(HAS, (1, 0)), closed_lot(FIRST, [2]), closed_lot(HAS, [1]), part_of(FIRST, (0, 2))]
    [(((0, 0), (0, 1)), (0, 1), (0, 1), (0, 1, 0)), (0, 2), (1,), (((0, 0), (1, 1)), (0, 1), (0, 0), (0, 0, 0))]
    >>> part_of(FIRST, (1, 2))
    raises NotClosed(fault=('left', 1))
    >>> [side_by_side(HAS, HAS)[1:3], side_by_side(HAS, HAS)[0][1], mixed_of(side_by_side(HAS, HAS), [1, 2])]
    [((0, 1, 2, 3), (0, 1, 2, 3)), (1, 1, 3, 3), 3]
    >>> side_by_side(FIRST, FIRST)
    raises TooMany()

    >>> from everrows.readers import answer, is_reader, judge_trace, reader_letters, says, trace
    >>> SEES = (HAS, (("a", 1), ("b", 0)), (1,))
    >>> [is_reader(SEES), is_reader((BENT, (("a", 1),), ())), is_reader((HAS, (("b", 0), ("a", 1)), (1,))), reader_letters(SEES)]
    [True, False, False, ['a', 'b']]
    >>> ROW = ("join", ("b", ("right", ("mix", ("a", "b")))))
    >>> [answer(SEES, ROW), says(SEES, ("left", "b")), trace(SEES, ("right", "a"))]
    [1, False, [('a', 1), (('right', 'a'), 1)]]
    >>> [pair[0] for pair in trace(SEES, ROW)] == ["b", "a", "b", ("mix", ("a", "b")), ROW[1][1], ROW]
    True
    >>> answer(SEES, ("join", ("b", "d", "c")))
    raises UnknownLetter(letter='d')
    >>> [judge_trace(SEES, ("right", "a"), trace(SEES, ("right", "a"))), judge_trace(SEES, ("right", "a"), [("a", 1)]), judge_trace(SEES, ("right", "a"), [("a", 0), (("right", "a"), 1)]), judge_trace(SEES, "a", None)]
    [None, ('parts', 1), ('answer', 0), ('form',)]
'''

MARK = "    >>> "


def told(expression, names):
    """What the interface would write behind an expression."""
    try:
        return repr(eval(expression, names))
    except (ValueError, LookupError) as error:
        borne = ", ".join(f"{name}={value!r}" for name, value in vars(error).items())
        return f"raises {type(error).__name__}({borne})"


class Examples(unittest.TestCase):
    def test_each_as_it_is_written(self):
        names, lines, looked_at = {}, EXAMPLES.split("\n"), 0
        for line, following in zip(lines, lines[1:]):
            if not line.startswith(MARK):
                continue
            if following.startswith("    ") and not following.startswith(MARK):
                with self.subTest(line):
                    self.assertEqual(told(line[len(MARK):], names), following.strip())
                looked_at += 1
            else:
                exec(line[len(MARK):], names)
        self.assertEqual(looked_at, len([line for line in lines if line.startswith("    ") and not line.startswith(MARK)]))
        self.assertGreater(looked_at, 35)

    def test_those_of_the_readme(self):
        readme = pathlib.Path(__file__).resolve().parent.parent / "README.md"
        results = doctest.testfile(str(readme), module_relative=False)
        self.assertEqual(results.failed, 0)
        self.assertGreater(results.attempted, 5)


if __name__ == "__main__":
    unittest.main()
