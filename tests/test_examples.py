"""The examples of the interface, each as it is written there."""

import doctest
import pathlib
import unittest

EXAMPLES = '''
    >>> from everrows.errors import BadName, BadText, Clash
    >>> [BadText(3).place, Clash(("a", "b")).names, BadName(["a", None]).name]
    [3, ('a', 'b'), ['a', None]]

    >>> from everrows.rows import copies, depth_of, is_row, joined, row_letters, size_of
    >>> AB, EVER = ("join", ("a", "b")), ("join", ("c", ("right", ("join", ("a", "b")))))
    >>> [size_of(EVER), depth_of(EVER), row_letters(EVER), size_of("a"), depth_of("a")]
    [6, 3, ['a', 'b', 'c'], 1, 0]
    >>> [is_row(EVER), is_row(("mix", ("a",))), is_row(("join", ("a",))), is_row(("right", ["a"])), is_row("ab")]
    [True, True, False, False, False]
    >>> [joined([AB]), joined([AB, "c"]), copies("a", 3), copies(AB, 1)]
    [('join', ('a', 'b')), ('join', (('join', ('a', 'b')), 'c')), ('join', ('a', 'a', 'a')), ('join', ('a', 'b'))]

    >>> from everrows.texts import read_row, row_text
    >>> [row_text(EVER), row_text(joined([AB, "c"])), row_text(("left", "a")), row_text(("mix", (AB, ("right", "c"))))]
    ['c (a b)>', '(a b) c', '<(a)', '[a b, (c)>]']
    >>> [read_row("c (a b)>") == EVER, read_row("(a b) c"), read_row("[a, <(b)]")]
    [True, ('join', (('join', ('a', 'b')), 'c')), ('mix', ('a', ('left', 'b')))]
    >>> read_row("(a)")
    raises BadText(place=3)
    >>> read_row("[(a b)]")
    raises BadText(place=6)
    >>> read_row("a  b")
    raises BadText(place=2)

    >>> from everrows.places import comes_ahead, count, first_place, is_place, last_place, letter_at, next_place, place_before, places
    >>> AB = ("join", ("a", "b"))
    >>> ROUND, BACK, MIX = ("right", AB), ("left", AB), ("mix", ("a", ("right", "b")))
    >>> [letter_at(ROUND, (2, 1)), letter_at(MIX, (1, 1)), letter_at(MIX, (3, 2, 4)), is_place(MIX, (2, 2, 0)), is_place(MIX, (1, 1, 0))]
    ['b', 'a', 'b', False, False]
    >>> [comes_ahead(MIX, (1, 2, 7), (1, 1)), comes_ahead(BACK, (2, 1), (1, 0)), comes_ahead(ROUND, (0, 1), (0, 1))]
    [True, True, False]
    >>> [first_place(ROUND), last_place(BACK), first_place(BACK), first_place(("join", (BACK, "a")))]
    [(0, 0), (0, 1), None, None]
    >>> [next_place(ROUND, (0, 1)), next_place(BACK, (0, 1)), next_place(MIX, (1, 2, 0)), next_place(MIX, (1, 1)), place_before(BACK, (1, 0))]
    [(1, 0), None, (1, 2, 1), None, (2, 1)]
    >>> [count(AB), count(MIX), count(("join", (AB, AB)))]
    [2, None, 4]
    >>> [places(ROUND, 2, 0), places(("mix", ("a",)), 1, 2), places(("join", (BACK, "c")), 1, 1)]
    [[(0, 0), (0, 1), (1, 0), (1, 1)], [(1, 2), (1, 1), (3, 2)], [(0, 0, 0), (0, 0, 1), (1,)]]

    >>> from everrows.sides import ahead, are_near, behind, between, laid, many_between, put_at
    >>> [laid([AB, "c", ("join", ("a", AB))]), laid([ROUND]), laid([])]
    [('join', ('a', 'b', 'c', 'a', 'a', 'b')), ('right', ('join', ('a', 'b'))), None]
    >>> [ahead(ROUND, (1, 1)), behind(ROUND, (1, 1)), ahead(ROUND, (0, 0)), behind(BACK, (2, 0))]
    [('join', ('a', 'b', 'a')), ('right', ('join', ('a', 'b'))), None, ('join', ('b', 'a', 'b', 'a', 'b'))]
    >>> [ahead(MIX, (1, 1)) == MIX, ahead(MIX, (1, 2, 1)) == ("join", (MIX, "b")), behind(MIX, (1, 2, 1)) == ("join", (("right", "b"), MIX))]
    [True, True, True]
    >>> [between(ROUND, (0, 1), (2, 0)), between(ROUND, (0, 0), (0, 1)), between(MIX, (1, 2, 0), (1, 2, 2)), many_between(ROUND, (0, 0), (5, 1))]
    [('join', ('a', 'b')), None, 'b', 10]
    >>> [put_at(AB, (1,), "c"), put_at(ROUND, (0, 0), ("left", "c")), many_between(MIX, (1, 2, 0), (1, 1))]
    [('join', ('a', 'c')), ('join', (('left', 'c'), 'b', ('right', ('join', ('a', 'b'))))), None]
    >>> [are_near(ROUND, (5, 1), (0, 0)), are_near(MIX, (1, 2, 0), (1, 1)), are_near(MIX, (1, 2, 3), (1, 2, 0))]
    [True, False, True]

    >>> from everrows.lots import is_lot, lot_of, lots, number_of
    >>> [lots(2), [number_of(lot) for lot in lots(3)], lot_of([2, 0, 2])]
    [[(0,), (1,), (0, 1)], [0, 1, 2, 3, 4, 5, 6], (0, 2)]
    >>> [is_lot((0,), 2), is_lot((0, 1), 2), is_lot((1, 0), 2), is_lot((), 2), is_lot((2,), 2), is_lot((False,), 2), is_lot([0], 2)]
    [True, True, False, False, False, False, False]

    >>> from everrows.tables import both_of, count_of, is_table, joined_of, left_of, mixed_of, power_of, right_of, round_of, still_power
    >>> HAS = (((0, 1), (1, 1)), (0, 1), (0, 1), (0, 1, 1))
    >>> FIRST = (((0, 0, 0), (1, 1, 1), (2, 2, 2)), (0, 1, 2), (0, 0, 0), (0, 0, 0, 0, 0, 0, 0))
    >>> [is_table(HAS), is_table(FIRST), is_table(HAS[:3]), is_table((((0, 2), (1, 1)), (0, 1), (0, 1), (0, 1, 1)))]
    [True, True, False, False]
    >>> [count_of(FIRST), both_of(FIRST, 1, 2), right_of(FIRST, 2), left_of(FIRST, 2), mixed_of(HAS, [1, 0, 1]), joined_of(FIRST, [2, 1, 0])]
    [3, 1, 2, 0, 1, 2]
    >>> TURN = (((0, 1), (1, 0)), (0, 0), (0, 0), (0, 0, 0))
    >>> [power_of(TURN, 1, 7), round_of(TURN, 1), still_power(TURN, 1), round_of(HAS, 1)]
    [1, (1, 2), 0, (1, 1)]

    >>> from everrows.lawful import broken_rules, first_broken, holds, judge_broken
    >>> [first_broken(HAS), first_broken(FIRST), first_broken(TURN), broken_rules(TURN)]
    [None, None, (2, (1, 0)), [2, 4, 6]]
    >>> BENT = (((0, 1), (1, 1)), (0, 1), (0, 1), (0, 1, 0))
    >>> [first_broken(BENT), holds(BENT, 6, ((0, 1), 0)), judge_broken(BENT, (6, ((0, 1), 1))), judge_broken(BENT, (6, ((0, 1), 0)))]
    [(6, ((0, 1), 1)), True, None, ('holds',)]
    >>> [judge_broken(HAS, None), judge_broken(BENT, None), judge_broken(BENT, (6, (0, 1))), judge_broken(BENT, (3, (0, 4)))]
    [None, ('lawless',), ('form',), ('form',)]
    >>> [judge_broken(HAS, (6, ((0,), 1))), judge_broken(HAS, (9, ((0,), (1,)))), judge_broken(HAS, (9, ((0,), (0,))))]
    [('form',), ('form',), ('holds',)]

    >>> from everrows.parted import closed_lot, part_of, renumbered, side_by_side
    >>> [renumbered(HAS, (1, 0)), closed_lot(FIRST, [2]), closed_lot(HAS, [1]), part_of(FIRST, (0, 2))]
    [(((0, 0), (0, 1)), (0, 1), (0, 1), (0, 1, 0)), (0, 2), (1,), (((0, 0), (1, 1)), (0, 1), (0, 0), (0, 0, 0))]
    >>> part_of(FIRST, (1, 2))
    raises NotClosed(fault=('left', 1))
    >>> [side_by_side(HAS, HAS)[1:3], side_by_side(HAS, HAS)[0][1], mixed_of(side_by_side(HAS, HAS), [1, 2])]
    [((0, 1, 2, 3), (0, 1, 2, 3)), (1, 1, 3, 3), 3]
    >>> side_by_side(FIRST, FIRST)
    raises TooMany()

    >>> from everrows.readers import answer, is_reader, judge_trace, reader_letters, says, trace
    >>> SEES = (HAS, (("a", 1), ("b", 0)), (1,))
    >>> [is_reader(SEES), is_reader((BENT, (("a", 1),), ())), is_reader((HAS, (("b", 0), ("a", 1)), (1,))), reader_letters(SEES)]
    [True, False, False, ['a', 'b']]
    >>> ROW = ("join", ("b", ("right", ("mix", ("a", "b")))))
    >>> [answer(SEES, ROW), says(SEES, ("left", "b")), trace(SEES, ("right", "a"))]
    [1, False, [('a', 1), (('right', 'a'), 1)]]
    >>> [pair[0] for pair in trace(SEES, ROW)] == ["b", "a", "b", ("mix", ("a", "b")), ROW[1][1], ROW]
    True
    >>> answer(SEES, ("join", ("b", "d", "c")))
    raises UnknownLetter(letter='d')
    >>> [judge_trace(SEES, ("right", "a"), trace(SEES, ("right", "a"))), judge_trace(SEES, ("right", "a"), [("a", 1)]), judge_trace(SEES, ("right", "a"), [("a", 0), (("right", "a"), 1)]), judge_trace(SEES, "a", None)]
    [None, ('parts', 1), ('answer', 0), ('form',)]

    >>> from everrows.steps import is_steps, letters_in, row_of, step_answers, tidied
    >>> TABLE = (((0, 1), (1, 1)), (0, 1), (0, 1), (0, 1, 1))
    >>> READER, STEPS = (TABLE, (("a", 0), ("b", 1)), (1,)), ("a", "b", ("join", 0, 1), ("right", 2))
    >>> [is_steps(STEPS), is_steps((("join", 0, 0),)), is_steps(("a", ("mix", ()))), is_steps(["a"]), letters_in(("b", "a", "b"))]
    [True, False, False, False, ('a', 'b')]
    >>> [row_of(STEPS), row_of(("a", ("left", 0), ("mix", (0, 1)))), step_answers(READER, STEPS)]
    [('right', ('join', ('a', 'b'))), ('mix', ('a', ('left', 'a'))), (0, 1, 1, 1)]
    >>> [tidied(("a", "b", "a", ("join", 2, 0), ("right", 3))), tidied(("a", "b", "a"))]
    [('a', ('join', 0, 0), ('right', 1)), ('a',)]

    >>> from everrows.closed import closed_fault, closed_lots, layers
    >>> ODD = (((1, 0), (0, 1)), (1, 1), (0, 0), (0, 1, 1))
    >>> [closed_fault(TABLE, (0,)), closed_fault(ODD, (0,)), closed_fault(ODD, (1,)), closed_fault((ODD[0], (0, 1), (0, 1), (0, 0, 1)), (1,))]
    [None, ('both', 0, 0), ('left', 1), ('mixed', (1,))]
    >>> [layers(TABLE, (0,)), layers(ODD, (1,)), closed_lots(TABLE), closed_lots(ODD)]
    [[(0,)], [(1,), (0, 1)], [(0,), (1,), (0, 1)], [(0, 1)]]

    >>> from everrows.reached import always, judge_always, judge_asked, reached, row_or_lot, spare, turns
    >>> LONE, BOTH = (TABLE, (("a", 0),), (1,)), (TABLE, (("a", 0), ("b", 1), ("c", 1)), (1,))
    >>> [sorted(reached(READER)), turns(READER), turns(LONE), spare(BOTH), spare(LONE)]
    [[0, 1], [(0, 1)], [(0,)], ('b', 'c'), ()]
    >>> [row_or_lot(LONE, (1,)), row_or_lot(READER, (1,))[0], judge_asked(READER, (1,), ("row", STEPS)), judge_asked(READER, (1,), ("lot", (0,)))]
    [('lot', (0,)), 'row', None, ('lacks', 'b')]
    >>> [always((TABLE, (("b", 1),), (1,))), always(READER)[0], judge_always(READER, ("not", STEPS)), judge_always(READER, ("always", (0, 1)))]
    [('always', (1,)), 'not', ('yes', 1), ('odd', 0)]
    >>> judge_asked(LONE, (1,), ("row", STEPS))
    ('letter', 'b')

    >>> from everrows.pairs import leads_out, pair_of, pairs_reached
    >>> HAS = (((0, 1), (1, 1)), (0, 1), (0, 1), (0, 1, 1))
    >>> HASB, HASA = (HAS, (("a", 0), ("b", 1)), (1,)), (HAS, (("a", 1), ("b", 0)), (1,))
    >>> ALL = (HAS, (("a", 0), ("b", 1)), (0, 1))
    >>> [pair_of(HASB, HASA, ("a", "b", ("join", 0, 1))), pair_of(HASB, HASA, ("a", ("right", 0)))]
    [(1, 1), (0, 1)]
    >>> sorted(pairs_reached(HASB, HASA))
    [(0, 1), (1, 0), (1, 1)]
    >>> [leads_out(HASB, HASA, ((0, 1), (1, 0))), leads_out(HASB, HASA, ((0, 1), (1, 0), (1, 1)))]
    [('both', (0, 1), (1, 0)), None]

    >>> from everrows.agreeing import agree, disjoint, judge_agree, judge_disjoint, judge_within, within
    >>> [agree(HASB, HASA)[0], agree(HASB, HASB)[0], within(HASB, ALL)[0], within(ALL, HASB)[0], disjoint(HASB, HASA)[0]]
    ['parts', 'agree', 'within', 'parts', 'parts']
    >>> [judge_agree(HASB, HASA, ("parts", ("a",))), judge_agree(HASB, HASA, ("parts", ("a", "b", ("join", 0, 1)))), judge_agree(HASB, HASA, ("parts", ("c",)))]
    [None, ('pair', (1, 1)), ('letter', 'c')]
    >>> [judge_within(HASB, ALL, ("within", ((0, 0), (1, 1)))), judge_within(HASB, ALL, ("within", ((1, 1),))), judge_within(HASB, ALL, ("agree", ((0, 0), (1, 1))))]
    [None, ('lacks', 'a'), ('form',)]
    >>> judge_disjoint(HASB, HASA, ("disjoint", ((0, 1), (1, 0))))
    ('both', (0, 1), (1, 0))

    >>> from everrows.meetings import alike_lots, meetings, order_of
    >>> sorted(meetings(HASB, HASA))
    [(False, True), (True, False), (True, True)]
    >>> [alike_lots([HASB, HASA, HASB]), order_of([HASB, ALL])]
    [[(0, 2), (1,)], [(0, 1)]]

    >>> from everrows.surrounding import answer_round, is_surroundings, put_round
    >>> MANY = (((0, 1, 2), (1, 2, 2), (2, 2, 2)), (0, 2, 2), (0, 2, 2), (0, 2, 2, 2, 2, 2, 2))
    >>> ONE, JUST = (MANY, (("a", 0), ("b", 1)), (1, 2)), (MANY, (("a", 0), ("b", 1)), (1,))
    >>> [is_surroundings((("ahead", ("a",)), ("mixed", ()))), is_surroundings((("ahead", "a"),)), is_surroundings(())]
    [True, False, True]
    >>> put_round(("a",), (("behind", ("b",)), ("mixed", ())))
    ('a', 'b', ('join', 0, 1), ('mix', (2,)))
    >>> put_round(("a", ("right", 0)), (("ahead", ("b", ("left", 0))),))
    ('a', ('right', 0), 'b', ('left', 2), ('join', 3, 1))
    >>> [answer_round(JUST, 0, (("ahead", ("b",)),)), answer_round(JUST, 0, (("ahead", ("b",)), ("right",)))]
    [1, 2]

    >>> from everrows.apart import classes, judge_part, part
    >>> [part(ONE, 1, 2), part(JUST, 0, 2)[0], classes(JUST)]
    [('alike', ((0,), (1, 2))), 'parts', ((0,), (1,), (2,))]
    >>> [judge_part(ONE, 1, 2, ("alike", ((0, 1), (2,)))), judge_part(JUST, 0, 2, ("parts", ())), judge_part(JUST, 0, 2, ("parts", (("ahead", ("b",)),)))]
    [('yes', 0), ('answers', (0, 2)), None]
    >>> [judge_part(JUST, 0, 2, ("alike", ((0, 2), (1,)))), judge_part(ONE, 1, 2, ("alike", ((1, 2),)))]
    [('ahead', 0, 2, 1), ('reached', 0)]

    >>> from everrows.leasts import called, is_least, judge_rename, least, rename
    >>> HAS = (((0, 1), (1, 1)), (0, 1), (0, 1), (0, 1, 1))
    >>> HASB, HASA = (HAS, (("a", 0), ("b", 1)), (1,)), (HAS, (("a", 1), ("b", 0)), (1,))
    >>> [least(ONE) == HASB, is_least(ONE), is_least(HASB), is_least(JUST)]
    [True, False, True, True]
    >>> called(HASB, (1, 0))
    ((((0, 0), (0, 1)), (0, 1), (0, 1), (0, 1, 0)), (('a', 1), ('b', 0)), (0,))
    >>> [rename(ONE, HASB), rename(HASB, called(HASB, (1, 0))), rename(HASB, HASA)[0]]
    [('same', (0, 1)), ('same', (1, 0)), 'parts']
    >>> [judge_rename(ONE, HASB, ("same", (1, 0))), judge_rename(HASB, HASA, ("parts", ("a",))), judge_rename(ONE, HASB, ("same", (0,)))]
    [('lacks', 'a'), None, ('form',)]

    >>> from everrows.lumps import depth, is_level_letter, letter_text, lump_of, root, turned_letter, width
    >>> [root(("a", "b", "a", "b")), root(("a", "b", "a")), lump_of((), ("a",), ())]
    [('a', 'b'), ('a', 'b', 'a'), 'a']
    >>> [lump_of((), ("a", "b", "b"), ("a", "b")), lump_of(("b", "a"), ("b", "a", "c"), ())]
    [('lump', (), ('a', 'b'), ('b', 'a')), ('lump', ('b', 'a'), ('c',), ())]
    >>> [lump_of(("b", "a"), ("b",), ("a", "b")), lump_of(("a",), (), ("a", "b"))]
    [('lump', ('a', 'b'), (), ('a', 'b')), ('lump', ('a',), (), ('a', 'b'))]
    >>> A_B = ("lump", (), ("a",), ("b",))
    >>> [letter_text(A_B), letter_text(("mixture", ("a", A_B))), letter_text(("lump", ("a", "b"), ("c",), ()))]
    ['{a (b)>}', '[a, {a (b)>}]', '{<(a b) c}']
    >>> [is_level_letter(A_B), is_level_letter(("lump", (), ("a",), ())), is_level_letter(("lump", (), ("a", "b"), ("b",)))]
    [True, False, False]
    >>> [turned_letter(A_B), width(("mixture", ("a", A_B))), depth(("mixture", ("a", A_B)))]
    [('lump', ('b',), ('a',), ()), 3, 2]

    >>> from everrows.levels import blended, form, has_near, level_rows, levels, lumped
    >>> FOR_EVER, MIXED = ("right", "a"), ("mix", ("a",))
    >>> [has_near(FOR_EVER), has_near(MIXED), has_near(("join", (FOR_EVER, "a"))), has_near(("join", (MIXED, "a", MIXED)))]
    [True, False, True, False]
    >>> [lumped(FOR_EVER), blended(MIXED), blended(("join", (MIXED, "a", MIXED)))]
    [('lump', (), (), ('a',)), ('mixture', ('a',)), ('mixture', ('a',))]
    >>> levels(("right", ("join", ("a", ("right", "b")))))
    [['a', 'b'], [('lump', (), ('a',), ('b',))], [('lump', (), (), (('lump', (), ('a',), ('b',)),))]]
    >>> [form(("join", ("a", ("right", ("join", ("b", "a")))))), form(("join", (MIXED, "b", MIXED)))]
    [('lump', (), (), ('a', 'b')), ('lump', (), (('mixture', ('a',)), 'b', ('mixture', ('a',))), ())]
    >>> len(level_rows(("mix", (("join", ("a", "b")), "c"))))
    3

    >>> from everrows.one import are_one, compare, is_form, judge_compare, unfolded
    >>> [are_one(("join", (MIXED, MIXED)), MIXED), are_one(("join", (MIXED, "a")), MIXED)]
    [True, False]
    >>> [compare(FOR_EVER, ("left", "a")), compare(MIXED, ("mix", (MIXED, "a"))), compare(MIXED, "b")]
    [('differ', 1, ('lump', (), (), ('a',))), ('one', ('mixture', ('a',))), ('differ', 0, 'a')]
    >>> [judge_compare(FOR_EVER, ("left", "a"), ("differ", 0, "a")), judge_compare(MIXED, MIXED, ("one", "a")), judge_compare("a", "a", None)]
    [('level', 1), ('letter', ('mixture', ('a',))), ('form',)]
    >>> [form(unfolded(A_B)) == A_B, is_form(A_B), is_form(("lump", (), ("a", ("lump", (), ("b", "c"), ())), ()))]
    [True, True, False]
    >>> [is_form(("mixture", ("a",))), is_form(("mixture", (("mixture", ("a",)), "a"))), is_form(None)]
    [True, False, False]

    >>> from everrows.cuts import ahead_pairs, cut_of_sort, cut_rows, cuts, first_letter, judge_cut, judge_cut_of_sort
    >>> from everrows.cuts import last_letter, next_pairs, sorts_of_cuts
    >>> SEEN = ((((0, 1), (1, 1)), (0, 1), (0, 1), (0, 1, 1)), (("a", 1), ("b", 0)), (1,))
    >>> EVER, BA, DENSE = ("right", ("join", ("a", "b"))), ("join", ("b", "a")), ("mix", ("b",))
    >>> [cuts(SEEN, EVER), cuts(SEEN, ("join", ("b", "b", "a"))), cuts(SEEN, DENSE), cuts(SEEN, "a")]
    [[(1, 1)], [(0, 1)], [(0, 0)], []]
    >>> [cut_rows(SEEN, BA, (0, 1)), cut_rows(SEEN, BA, (1, 0)), judge_cut(SEEN, EVER, (1, 1), cut_rows(SEEN, EVER, (1, 1)))]
    [('b', 'a'), None, None]
    >>> [judge_cut(SEEN, BA, (0, 1), value) for value in (None, ("a", "b"), ("b", EVER), ("b",))]
    [('there',), ('answer', 1, 0), ('row',), ('form',)]
    >>> [first_letter(EVER), last_letter(EVER), first_letter(DENSE), last_letter(("left", "a"))]
    ['a', None, None, 'a']
    >>> [sorts_of_cuts(EVER), sorts_of_cuts(DENSE), sorts_of_cuts(("join", (EVER, "a"))), sorts_of_cuts("a")]
    [['jump'], ['first', 'gap', 'last'], ['first', 'jump'], []]
    >>> [cut_of_sort(BA, "jump"), cut_of_sort(BA, "gap"), judge_cut_of_sort(BA, "gap", ("b", "a"))]
    [('b', 'a'), None, ('sort', 'jump')]
    >>> [next_pairs(EVER), next_pairs(DENSE), ahead_pairs(BA), ahead_pairs(DENSE)]
    [[('a', 'b'), ('b', 'a')], [], [('b', 'a')], [('b', 'b')]]

    >>> from everrows.pieces import all_pieces, beginnings, common_pieces, ends, has_piece, judge_all_pieces, judge_piece
    >>> from everrows.pieces import pieces, pieces_within
    >>> [beginnings(SEEN, EVER), ends(SEEN, EVER), pieces(SEEN, EVER), beginnings(SEEN, BA), ends(SEEN, BA)]
    [[1], [1], [0, 1], [0, 1], [1]]
    >>> [has_piece(SEEN, BA, 0), has_piece(SEEN, BA, 1) is None, has_piece(SEEN, "a", 0)]
    [(None, 'b', 'a'), False, None]
    >>> [judge_piece(SEEN, BA, 0, value) for value in (None, (None, "a", None), ("b", "b", "a"), (None, "b", "a"))]
    [('there',), ('answer', 1), ('row',), None]
    >>> [all_pieces(SEEN, "a"), all_pieces(SEEN, BA), judge_all_pieces(SEEN, BA, ("all", (1,))), judge_all_pieces(SEEN, BA, ("all", (0, 1)))]
    [('all', (1,)), ('not', (None, 'b', 'a')), ('lacks', 0), ('yes', 0)]
    >>> [pieces_within(SEEN, DENSE, BA), pieces_within(SEEN, BA, DENSE), common_pieces(SEEN, BA, DENSE)]
    [('within',), ('parts', 1), [0]]

    >>> from everrows.sorts import by_sort, judge_by_sort, judge_same, same_by_sort, sorts_of, sorts_of_row
    >>> [sorts_of_row("a"), sorts_of_row(("right", "a")), sorts_of_row(("mix", ("a",)))]
    [['finite', 'right', 'left', 'scattered', 'all'], ['right', 'scattered', 'all'], ['all']]
    >>> TWO = (((0, 1), (1, 1)), (0, 1), (0, 1), (0, 1, 1))
    >>> HAS = (TWO, (("a", 0), ("b", 1)), (1,))
    >>> [judge_by_sort(HAS, "finite", 1, ("row", ("b",))), judge_by_sort(HAS, "finite", 1, ("row", ("a", ("right", 0))))]
    [None, ('dealing', 1)]
    >>> [judge_by_sort(HAS, "all", 1, ("lot", (0,))), judge_by_sort(HAS, "all", 1, ("lot", (0, 1)))]
    [('lacks', 'b'), ('asked',)]
    >>> [sorts_of(HAS) == {0: sorts_of_row("a"), 1: sorts_of_row("a")}, judge_same(HAS, HAS, "all", ("agree", ((0, 0), (1, 1))))]
    [True, None]

    >>> from everrows.made import beside, negated
    >>> negated(HAS)[2]
    (0,)
    >>> beside(HAS, negated(HAS), "and")
    ((((0, 1), (1, 1)), (0, 1), (0, 1), (0, 1, 1)), (('a', 0), ('b', 1)), ())

    >>> from everrows.exchanged import replaced, replaced_row, turned, turned_row
    >>> turned_row(("join", ("a", ("right", "b"))))
    ('join', (('left', 'b'), 'a'))
    >>> [turned(HAS) == HAS, replaced_row(("right", "a"), {"a": ("join", ("a", "b"))})]
    [True, ('right', ('join', ('a', 'b')))]
    >>> replaced(HAS, {"d": ("right", "b"), "c": "a"})[1]
    (('c', 0), ('d', 1))

    >>> from everrows.deeds import after, deed_text, is_thing, read_deed, thing_text
    >>> SEES = ((((0, 1), (1, 1)), (0, 1), (0, 1), (0, 1, 1)), (("a", 1), ("b", 0)), (1,))
    >>> FIRST = after(after({}, ("row", "p", "a")), ("right", "q", "p"))
    >>> [FIRST, is_thing(("row", "a")), is_thing(("row", "ab")), thing_text(FIRST["q"]), thing_text(("reader", SEES))]
    [{'p': ('row', 'a'), 'q': ('row', ('right', 'a'))}, True, False, '(a)>', 'a1,b0 01/11 01 01 011 1']
    >>> [thing_text(after(FIRST, deed)["r"]) for deed in (("join", "r", ("p", "q")), ("mix", "r", ("q", "p")), ("put", "r", "q", (2,), "p"), ("turn", "r", "q"))]
    ['a (a)>', '[(a)>, a]', 'a a a (a)>', '<(a)']
    >>> [deed_text(("put", "r", "p", (), "q")), read_deed("join r p q"), read_deed("mix r q"), read_deed("row r a (b)>")]
    ['put r p - q', ('join', 'r', ('p', 'q')), ('mix', 'r', ('q',)), ('row', 'r', ('join', ('a', ('right', 'b'))))]
    >>> after(FIRST, ("right", "r", "s"))
    raises UnknownName(name='s')
    >>> after(FIRST, ("put", "r", "p", (0,), "q"))
    raises BadDeed()

    >>> from everrows.house import House
    >>> HOUSE = House()
    >>> [HOUSE.do(("row", "p", "a")), HOUSE.do(("reader", "s", SEES)), HOUSE.branch("side"), HOUSE.do(("row", "p", "b"))]
    [1, 2, None, 3]
    >>> [HOUSE.keep("k", ("answer", "s", "p")), HOUSE.undo(), HOUSE.today("k"), HOUSE.paper("k"), HOUSE.redo(), HOUSE.today("k")]
    [0, 2, ('answer', 1), (('answer', 's', 'p'), 0, 3), 3, None]
    >>> [HOUSE.go("side"), HOUSE.do(("left", "q", "p")), HOUSE.go("main"), HOUSE.common(3, 4), HOUSE.merge("side"), HOUSE.elders(5)]
    [2, 4, 3, 2, 5, (3, 4)]
    >>> [HOUSE.shelf()["p"], HOUSE.shelf()["q"], HOUSE.ask(("compare", "q", "q"))[0], HOUSE.present(), HOUSE.branches()]
    [('row', 'b'), ('row', ('left', 'a')), 'one', 'main', ['main', 'side']]
    >>> HOUSE.ask(("answer", "p", "s"))
    raises BadDeed()

    >>> from everrows.console import Console
    >>> CONSOLE = Console()
    >>> [CONSOLE.say("row p a (a b)>"), CONSOLE.say("left q p"), CONSOLE.say("show q"), CONSOLE.say("ahead p 1.1.0"), CONSOLE.say("behind p 0"), CONSOLE.say("ahead p 0")]
    ['1', '2', '<(a (a b)>)', 'a a b', '(a b)>', 'none']
    >>> [CONSOLE.say("reader s a1,b0 01/11 01 01 011 1"), CONSOLE.say("answer s q"), CONSOLE.say("keep k compare p q"), CONSOLE.say("today k"), CONSOLE.say("show")]
    ['3', '1 yes', 'differ', 'right', 'p q s']
    >>> [CONSOLE.say("letter p 0"), CONSOLE.say("letter p 0.0"), CONSOLE.say("form p"), CONSOLE.say("undo"), CONSOLE.say("always s"), CONSOLE.say("stay")]
    ['a', 'refused', '{a (a b)>}', '2', 'refused', 'what']
'''

MARK = "    >>> "


def told(expression, names):
    """What the interface would write behind an expression."""
    try:
        return repr(eval(expression, names))
    except (ValueError, LookupError) as error:
        borne = ", ".join(f"{name}={value!r}" for name, value in vars(error).items())
        return f"raises {type(error).__name__}({borne})"


class Examples(unittest.TestCase):
    def test_each_as_it_is_written(self):
        names, lines, looked_at = {}, EXAMPLES.split("\n"), 0
        for line, following in zip(lines, lines[1:]):
            if not line.startswith(MARK):
                continue
            if following.startswith("    ") and not following.startswith(MARK):
                with self.subTest(line):
                    self.assertEqual(told(line[len(MARK):], names), following.strip())
                looked_at += 1
            else:
                exec(line[len(MARK):], names)
        self.assertEqual(looked_at, len([line for line in lines if line.startswith("    ") and not line.startswith(MARK)]))
        self.assertGreater(looked_at, 110)

    def test_those_of_the_readme(self):
        readme = pathlib.Path(__file__).resolve().parent.parent / "README.md"
        results = doctest.testfile(str(readme), module_relative=False)
        self.assertEqual(results.failed, 0)
        self.assertGreater(results.attempted, 5)


if __name__ == "__main__":
    unittest.main()
