"""The package keeps to its subset of Python, as far as the text of its files tells, and has the interface's names."""

import ast
import builtins
import pathlib
import re
import unittest

PACKAGE = pathlib.Path(__file__).resolve().parent.parent / "everrows"
FILES = {path.stem: path for path in sorted(PACKAGE.glob("*.py"))}
TREES = {stem: ast.parse(path.read_text()) for stem, path in FILES.items()}

INTERFACE = {
    "errors": ["RowError", "TooMany", "BadDeed", "NothingDone", "BadText", "UnknownLetter", "NotClosed", "BadName", "Clash",
               "Missing", "UnknownName", "NoMoment"],
    "rows": ["is_letter(value)", "is_row(value)", "size_of(row)", "depth_of(row)", "row_letters(row)", "joined(rows)",
             "copies(row, many)"],
    "texts": ["row_text(row)", "read_row(text)"],
    "places": ["is_place(row, value)", "letter_at(row, place)", "comes_ahead(row, one, other)", "first_place(row)",
               "last_place(row)", "next_place(row, place)", "place_before(row, place)", "count(row)",
               "places(row, copies, halvings)"],
    "sides": ["laid(rows)", "ahead(row, place)", "behind(row, place)", "between(row, one, other)",
              "many_between(row, one, other)", "are_near(row, one, other)", "put_at(row, place, other)"],
    "lots": ["lots(n)", "number_of(lot)", "is_lot(value, n)", "lot_of(answers)"],
    "tables": ["is_table(value)", "count_of(table)", "both_of(table, s, t)", "right_of(table, s)", "left_of(table, s)",
               "mixed_of(table, answers)", "joined_of(table, answers)", "power_of(table, s, k)", "round_of(table, s)",
               "still_power(table, s)"],
    "lawful": ["first_broken(table)", "broken_rules(table)", "holds(table, number, things)", "judge_broken(table, value)"],
    "parted": ["renumbered(table, order)", "closed_lot(table, answers)", "part_of(table, lot)", "side_by_side(one, other)"],
    "readers": ["is_reader(value)", "reader_letters(reader)", "answer(reader, row)", "says(reader, row)", "trace(reader, row)",
                "judge_trace(reader, row, value)"],
    "steps": ["is_steps(value)", "row_of(steps)", "letters_in(steps)", "tidied(steps)", "step_answers(reader, steps)"],
    "closed": ["closed_fault(table, lot)", "layers(table, lot)", "closed_lots(table)"],
    "reached": ["reached(reader)", "turns(reader)", "spare(reader)", "row_or_lot(reader, answers)",
                "judge_asked(reader, answers, value)", "always(reader)", "judge_always(reader, value)"],
    "pairs": ["pair_of(one, other, steps)", "pairs_reached(one, other)", "leads_out(one, other, pairs)"],
    "agreeing": ["agree(one, other)", "within(one, other)", "disjoint(one, other)", "judge_agree(one, other, value)",
                 "judge_within(one, other, value)", "judge_disjoint(one, other, value)"],
    "meetings": ["meetings(one, other)", "alike_lots(readers)", "order_of(readers)"],
    "surrounding": ["is_surroundings(value)", "put_round(steps, surroundings)", "answer_round(reader, s, surroundings)"],
    "apart": ["part(reader, s, t)", "judge_part(reader, s, t, value)", "classes(reader)"],
    "leasts": ["least(reader)", "is_least(reader)", "called(reader, names)", "rename(one, other)",
               "judge_rename(one, other, value)"],
    "lumps": ["letter_text(letter)", "root(word)", "lump_of(left, middle, right)", "is_level_letter(value)",
              "turned_letter(letter)", "width(letter)", "depth(letter)"],
    "levels": ["has_near(row)", "lumped(row)", "blended(row)", "level_rows(row)", "levels(row)", "form(row)"],
    "one": ["unfolded(thing)", "is_form(value)", "are_one(one, other)", "compare(one, other)",
            "judge_compare(one, other, value)"],
    "cuts": ["cuts(reader, row)", "cut_rows(reader, row, pair)", "judge_cut(reader, row, pair, value)", "first_letter(row)",
             "last_letter(row)", "sorts_of_cuts(row)", "cut_of_sort(row, sort)", "judge_cut_of_sort(row, sort, value)",
             "next_pairs(row)", "ahead_pairs(row)"],
    "pieces": ["beginnings(reader, row)", "ends(reader, row)", "pieces(reader, row)", "has_piece(reader, row, s)",
               "judge_piece(reader, row, s, value)", "all_pieces(reader, row)", "judge_all_pieces(reader, row, value)",
               "pieces_within(reader, one, other)", "common_pieces(reader, one, other)"],
    "sorts": ["sorts_of_row(row)", "by_sort(reader, sort, s)", "judge_by_sort(reader, sort, s, value)", "sorts_of(reader)",
              "same_by_sort(one, other, sort)", "judge_same(one, other, sort, value)"],
    "made": ["has_letter(letters, c)", "begins_with(letters, c)", "ends_with(letters, c)", "has_first(letters)", "has_last(letters)",
             "neighbours(letters, c, d)", "count_to(letters, c, n)", "none_near(letters)", "negated(reader)",
             "beside(one, other, word)"],
    "exchanged": ["turned_row(row)", "turned(reader)", "replaced_row(row, rows)", "replaced(reader, rows)"],
    "deeds": ["is_thing(value)", "thing_text(thing)", "after(shelf, deed)", "deed_text(deed)", "read_deed(text)"],
    "house": ["House"],
    "console": ["Console"],
}

# The methods of the classes of the interface, each in the class itself.
METHODS = {
    "House": """number() shelf() shelf_at(number) elders(number) branches() present() do(deed) undo() redo() branch(name) go(name)
        merge(name) common(one,other) ask(question) keep(label,question) labels() paper(label) today(label)""",
    "Console": "house() say(line)",
}

ALLOWED_BUILTINS = set("""len range enumerate zip min max sum abs sorted reversed int str bool list tuple dict set isinstance
    ord any all divmod super repr map iter next ValueError LookupError KeyError""".split())
ALLOWED_METHODS = set("""append clear copy count endswith extend find get index insert isalnum isalpha isdigit islower isspace
    isupper items join keys ljust lower lstrip partition pop remove replace reverse rfind rjust rpartition rsplit rstrip
    setdefault split splitlines startswith strip update upper values zfill bit_length add discard __init__""".split())
BARRED_NAMES = set("""register mro elements open input law version_info with_traceback add_note attrgetter breakpoint builtins
    compile copyright credits delattr dir eval exec exit gc globals help id importlib license locals methodcaller os quit
    setattr type vars sys""".split())
ITERATORS = {"list", "tuple", "dict", "sorted", "sum", "any", "all", "enumerate", "zip", "min", "max"}
PLAIN_DUNDERS = {"__init__", "__eq__", "__repr__", "__str__", "__len__"}


OWN_METHODS = {part.name for tree in TREES.values() for node in tree.body if isinstance(node, ast.ClassDef)
               for part in node.body if isinstance(part, ast.FunctionDef)}


def walk(tree):
    """All pairs of a node and the one in which it stands."""
    for node in ast.walk(tree):
        for child in ast.iter_child_nodes(node):
            yield child, node


def bound_names(tree):
    """The names of variables, parameters, functions, classes and imports of a file."""
    for node in ast.walk(tree):
        if isinstance(node, ast.Name) and isinstance(node.ctx, (ast.Store, ast.Del)):
            yield node.id
        elif isinstance(node, ast.arg):
            yield node.arg
        elif isinstance(node, (ast.FunctionDef, ast.ClassDef)):
            yield node.name
        elif isinstance(node, ast.ImportFrom):
            yield from [alias.name for alias in node.names]


def defined(tree):
    """The names that stand at a file's top, in their order, imports left out."""
    for node in tree.body:
        if isinstance(node, (ast.FunctionDef, ast.ClassDef)):
            yield node.name
        elif isinstance(node, ast.Assign):
            yield node.targets[0].id


class Files(unittest.TestCase):
    def each(self):
        return [(stem, path.read_text(), ast.parse(path.read_text())) for stem, path in FILES.items()]

    def test_nothing_else_in_the_folder(self):
        others = [path.name for path in PACKAGE.iterdir() if path.suffix != ".py" and path.name != "__pycache__"]
        self.assertEqual(others, [])
        for stem in FILES:
            self.assertRegex(stem, "^[a-z_][a-z0-9_]*$")

    def test_sizes_and_characters(self):
        for _, text, tree in self.each():
            lines = text.split("\n")
            self.assertLess(len(lines), 400)
            self.assertLessEqual(max(len(line) for line in lines), 120)
            self.assertTrue(all(sign == "\n" or " " <= sign <= "~" for sign in text))
            for node in ast.walk(tree):
                if isinstance(node, (ast.FunctionDef, ast.Lambda)):
                    self.assertLessEqual(node.end_lineno - node.lineno + 1, 40, ast.dump(node)[:60])

    def test_imports(self):
        reached = {}
        for stem, _, tree in self.each():
            reached[stem] = set()
            for node in ast.walk(tree):
                self.assertNotIsInstance(node, ast.Import)
                if isinstance(node, ast.ImportFrom):
                    self.assertEqual((node.level, node.module[:9], node in tree.body), (0, "everrows.", True))
                    reached[stem].add(node.module[9:])
                    for alias in node.names:
                        self.assertIsNone(alias.asname)
                        self.assertIn(alias.name, list(defined(TREES[node.module[9:]])), "not from its own file")
        for _ in reached:
            reached = {stem: some.union(*(reached[one] for one in some)) for stem, some in reached.items()}
        self.assertEqual([stem for stem, some in reached.items() if stem in some], [], "a circle of imports")

    def test_the_top_of_a_file(self):
        kinds = (ast.ImportFrom, ast.FunctionDef, ast.ClassDef, ast.Assign)
        for _, _, tree in self.each():
            self.assertIsNotNone(ast.get_docstring(tree))
            names = list(defined(tree)) + [alias.name for node in tree.body if isinstance(node, ast.ImportFrom)
                                           for alias in node.names]
            self.assertEqual(len(names), len(set(names)), "a name is bound twice")
            for node in tree.body[1:]:
                self.assertIsInstance(node, kinds)
                if isinstance(node, ast.Assign):
                    self.assertEqual([type(target) for target in node.targets], [ast.Name])

    def test_every_name_of_the_interface_is_defined_in_its_file(self):
        for stem, calls in INTERFACE.items():
            told = {}
            for node in TREES[stem].body:
                if isinstance(node, ast.FunctionDef):
                    told[node.name] = f"{node.name}({ast.unparse(node.args)})"
                elif isinstance(node, ast.ClassDef):
                    told[node.name] = node.name
            for call in calls:
                self.assertEqual(told.get(call.partition("(")[0]), call)

    def test_every_method_of_the_interface_is_defined_in_its_class(self):
        for stem in ("house", "console"):
            for node in [node for node in TREES[stem].body if isinstance(node, ast.ClassDef)]:
                told = [f"{part.name}({','.join(arg.arg for arg in part.args.args[1:])})" for part in node.body if isinstance(part, ast.FunctionDef)]
                self.assertEqual([call for call in METHODS[node.name].split() if call not in told], [])
                self.assertEqual([part for part in told if not part.startswith("_") and part not in METHODS[node.name].split()], [])

    def test_names(self):
        for _, _, tree in self.each():
            held = {alias.name for node in tree.body if isinstance(node, ast.ImportFrom) for alias in node.names}
            held |= {node.name for node in tree.body if isinstance(node, ast.ClassDef)}
            bound = list(bound_names(tree))
            for name in held:
                self.assertEqual(bound.count(name), 1, f"{name} is given another meaning")
            for name in [name for name in bound if name not in ("_", "__init__")]:
                self.assertRegex(name, "^_?[A-Za-z][A-Za-z0-9_]*$")
                self.assertFalse(hasattr(builtins, name), name)
                self.assertNotIn(name, BARRED_NAMES)
                self.assertNotRegex(name, "^(_wall|_pe_|_dcw_|_enum_|_cm_|_twin_re_|_lay_|_law_|_stub_|_sre)")
            for node in ast.walk(tree):
                if isinstance(node, ast.Name) and isinstance(node.ctx, ast.Load):
                    self.assertNotEqual(node.id, "_")
                    if hasattr(builtins, node.id):
                        self.assertIn(node.id, ALLOWED_BUILTINS)

    def test_barred_words(self):
        barred = re.compile(r"\b(type|typing|enum|Enum|Generic|Protocol|ABC|namedtuple)\b|dataclass|overload|contextmanager")
        for _, _, tree in self.each():
            for node in ast.walk(tree):
                if isinstance(node, (ast.FunctionDef, ast.ClassDef, ast.Module)) and ast.get_docstring(node):
                    node.body[0].value.value = ""
            self.assertIsNone(barred.search(ast.unparse(tree)))

    def test_statements_and_expressions(self):
        barred = (ast.Global, ast.AsyncFunctionDef, ast.AsyncFor, ast.AsyncWith, ast.Await, ast.Import, ast.Div, ast.MatMult,
                  ast.Set, ast.AnnAssign)
        for _, _, tree in self.each():
            for node, outer in walk(tree):
                self.assertNotIsInstance(node, barred)
                if isinstance(node, (ast.FunctionDef, ast.ClassDef)):
                    self.assertEqual(node.decorator_list, [])
                    self.assertTrue(not node.name.startswith("__") or node.name in PLAIN_DUNDERS)
                if isinstance(node, ast.ClassDef):
                    self.assertIsInstance(outer, ast.Module)
                if isinstance(node, ast.Constant):
                    self.assertNotIsInstance(node.value, (float, complex, bytes))
                    self.assertNotIn("%", str(node.value))
                if isinstance(node, ast.BinOp) and isinstance(node.op, ast.Pow):
                    self.assertIsInstance(node.right, ast.Constant)
                if isinstance(node, ast.Compare) and any(isinstance(op, (ast.Is, ast.IsNot)) for op in node.ops):
                    self.assertIsInstance(node.comparators[0], ast.Constant)
                if isinstance(node, ast.ExceptHandler):
                    self.assertIsNotNone(node.type)
                if isinstance(node, ast.Raise):
                    self.assertIsInstance(node.exc, ast.Call)

    def test_calls(self):
        for _, _, tree in self.each():
            for node, outer in walk(tree):
                if not isinstance(node, ast.Call):
                    continue
                if isinstance(node.func, ast.Attribute):
                    self.assertIn(node.func.attr, ALLOWED_METHODS | OWN_METHODS)
                    self.assertEqual(node.keywords, [])
                name = node.func.id if isinstance(node.func, ast.Name) else ""
                if name in ("zip", "enumerate", "reversed", "range"):
                    self.assertTrue(self.at_once(node, outer, name), ast.unparse(outer))
                if isinstance(outer, ast.Attribute) and name == "super":
                    self.assertEqual(outer.attr, "__init__")

    def at_once(self, node, outer, name):
        if isinstance(outer, (ast.For, ast.comprehension)):
            return outer.iter is node
        if isinstance(outer, ast.Call) and isinstance(outer.func, ast.Name):
            return outer.func.id in ITERATORS or (name == "range" and outer.func.id in ("len", "reversed"))
        return name == "range" and isinstance(outer, ast.Compare)

    def test_sets_and_generator_expressions_stand_where_they_may(self):
        for _, _, tree in self.each():
            for node, outer in walk(tree):
                called = outer.func.id if isinstance(outer, ast.Call) and isinstance(outer.func, ast.Name) else ""
                if isinstance(node, ast.SetComp):
                    self.assertTrue(called in ("sorted", "len") or isinstance(outer, ast.Compare))
                if isinstance(node, ast.GeneratorExp):
                    self.assertIn(called, ("list", "tuple", "dict", "sorted", "sum", "min", "max", "any", "all"))
                if isinstance(node, ast.Call) and isinstance(node.func, ast.Name) and node.func.id == "set":
                    self.assertTrue(called in ("sorted", "len") or isinstance(outer, (ast.Compare, ast.Assign)))

    def test_what_a_loop_goes_over_is_not_changed_in_it(self):
        changing = {"append", "extend", "pop", "insert", "remove", "clear", "update", "setdefault", "reverse", "sort"}
        for _, _, tree in self.each():
            for loop in [node for node in ast.walk(tree) if isinstance(node, ast.For)]:
                gone_over = {node.id for node in ast.walk(loop.iter) if isinstance(node, ast.Name)}
                for node in [inner for statement in loop.body for inner in ast.walk(statement)]:
                    if isinstance(node, ast.Call) and isinstance(node.func, ast.Attribute) and node.func.attr in changing:
                        self.assertNotIn(getattr(node.func.value, "id", ""), gone_over)
                    if isinstance(node, ast.Subscript) and isinstance(node.ctx, (ast.Store, ast.Del)):
                        self.assertNotIn(getattr(node.value, "id", ""), gone_over)

    def test_functions_do_not_assign_names_from_around_them(self):
        for _, _, tree in self.each():
            for outer in [node for node in ast.walk(tree) if isinstance(node, ast.FunctionDef)]:
                for inner in [node for node in ast.walk(outer) if isinstance(node, ast.FunctionDef) and node is not outer]:
                    own = {name for name in bound_names(inner)} - {inner.name}
                    around = {name for statement in outer.body if statement is not inner for name in bound_names(statement)}
                    self.assertFalse(own & (around | {arg.arg for arg in outer.args.args}), inner.name)


if __name__ == "__main__":
    unittest.main()
