"""The interface as it is listed, and those rules of the language that are easy to see."""

import ast
import importlib
import inspect
import pathlib
import unittest

FOLDER = pathlib.Path(__file__).resolve().parent.parent / "editionrows"

FUNCTIONS = {
    "values": ["is_value(value)", "is_within(value, greatest)", "values_to(greatest)", "rank(value)",
               "in_order(values)"],
    "changes": ["is_change(value)", "kind_of(change)", "why_not(columns, change)",
                "changed_columns(columns, change, number)", "changed_value(column, change, value)"],
    "stored": ["is_stored(history, value)", "store(history, told, *, edition=None)", "stored_value(row, number)",
               "followed(history, row, *, edition=None)", "barred_at(history, row)", "all_stored(history, edition)"],
    "maps": ["arguments_of(history, edition, number)", "is_dead(history, edition)",
             "map_of(history, edition, number)", "maps_of(history, edition)", "read_row(history, row)"],
    "books": ["numbers_of(book, history, edition=None)", "kept_row(book, history, row)",
              "book_reads(book, history, row)"],
    "lives": ["first_lives(book, most)", "steps_of(book, life, most)", "is_life(book, value, most)",
              "life_reads(book, life)", "all_lives(book, most)", "is_right(book, most)", "least_break(book, most)"],
    "papers": ["paper_of(book, most)", "lets_paper(book, most, value)"],
    "looks": ["looks(history, change, editions)", "needs_rows(change, columns)",
              "barring(history, change, editions)"],
    "covers": ["go_together(history, one, other)", "parting_argument(history, one, other)",
               "live_ones(history, editions)", "joined_map(history, editions)", "least_cover(history, editions)",
               "is_cover(history, editions, value)"],
    "touches": ["touched(history, row)", "remembered(history, rows, open_ones=())",
                "least_touches(history, rows, most, *, open_ones=())",
                "touch_plan(history, rows, most, *, open_ones=())",
                "is_touch_plan(history, rows, most, value, *, open_ones=())"],
    "late": ["late_row(history, edition, told)", "meant(history, edition, told)", "is_late_right(history, edition)",
             "late_error(history, edition)", "unlike_names(history, edition)", "fence(history, edition)",
             "right_editions(history)", "live_editions(history)"],
    "indexes": ["stored_values(history, number, edition)", "order_break(history, number, editions)",
                "is_in_order(history, number, editions)", "unique_break(history, number, editions)",
                "is_alike_unique(history, number, editions)"],
    "twotables": ["pairs_together(one, other, first, second)", "least_pair_cover(one, other, pairs)"],
    "elders": ["elder_read(history, reader, row)", "can_be_there(history, row)", "can_read(history, reader, edition)",
               "unread_row(history, reader, edition)", "readers_of(history, edition)", "editions_for(history, reader)",
               "is_dead(history, edition)"],
    "likes": ["unlike(one, other)", "are_alike(one, other)", "is_unlike(one, other, value)"],
    "toldback": ["is_blank_change(value)", "blanks_in(changes)", "filled_in(changes, numbers)",
                 "explains(history, sightings)", "fillings(columns, changes, sightings, *, most=9)",
                 "sure_reads(columns, changes, sightings, row, edition, *, most=9)"],
    "texts": ["write_change(change)", "write_history(history)", "write_told(told)", "read_change(text)",
              "read_history(text)", "read_told(text)"],
    "orders": ["exchanged(history, index)", "exchanges(history)", "least_order(history)", "shortest(history, *, most=2)"],
}

METHODS = {
    "columns.Column": ["__init__(self, name, greatest, default=None, *, number=0)", "__eq__(self, other)",
                       "__contains__(self, x)", "all_values(self)", "changed(self, part, value)"],
    "histories.History": ["__init__(self, columns, changes=())", "__eq__(self, other)", "__len__(self)",
                          "__getitem__(self, at)", "__iter__(self)", "first_columns(self)",
                          "columns(self, edition=None)", "changes_told(self)", "column(self, name, *, edition=None)",
                          "by_number(self, number, *, edition=None)", "numbers(self)", "born(self, number)",
                          "dropped(self, number)", "then(self, change)", "back(self)", "up_to(self, edition)",
                          "behind(self, edition)"],
    "plain.Plain": ["__init__(self, history, rows=())", "__eq__(self, other)", "__len__(self)", "rows(self)",
                    "written(self, told)", "changed(self, change)", "why_not(self, change)"],
    "maps.Map": ["__init__(self, pairs)", "__call__(self, argument)", "__getitem__(self, at)", "__contains__(self, x)",
                 "__len__(self)", "__iter__(self)", "__eq__(self, other)", "__le__(self, other)",
                 "__or__(self, other)", "arguments(self)", "agrees(self, other)", "then(self, other)"],
    "books.Book": ["__init__(self, *, missing='kept', numbering='fresh', mapping='order', touching=())",
                   "__eq__(self, other)", "__le__(self, other)", "changed(self, part, value)", "touches(self, change)"],
    "covers.Memory": ["__init__(self, history, editions)", "__eq__(self, other)", "__len__(self)", "lots(self)",
                      "read(self, row)"],
    "indexes.StoredIndex": ["__init__(self, history, number, rows)", "__len__(self)", "entries(self)", "reads(self)",
                            "is_sorted(self)", "unique_by_stored(self)", "unique_by_read(self)", "find(self, value)"],
    "live.Live": ["__init__(self, history)", "__len__(self)", "change(self, change)", "write(self, told)",
                  "write_late(self, edition, told)", "touch(self, index)", "touch_all(self)", "stored(self, index)",
                  "read(self, index)", "plain(self)", "eldest(self)", "steps(self)", "undo(self)",
                  "attempt(self, deed)", "trying(self)"],
    "console.Console": ["__init__(self, history)", "answer(self, line)"],
}

BUILTINS = ["len", "range", "enumerate", "zip", "min", "max", "sum", "abs", "sorted", "reversed", "int", "str", "bool",
            "list", "tuple", "dict", "set", "isinstance", "repr", "any", "all", "divmod", "ValueError", "TypeError",
            "KeyError", "IndexError", "OverflowError", "RuntimeError", "NotImplemented", "super"]

# Python's own methods that the package may call; all others are its own.
PLAIN_METHODS = ["append", "get", "items", "join", "index", "pop", "copy", "count", "keys", "setdefault", "split",
                 "values", "extend", "reverse", "insert", "partition", "startswith"]

NODES_BARRED = (ast.AsyncFunctionDef, ast.Await, ast.Global, ast.Import, ast.Lambda, ast.GeneratorExp, ast.Div,
                ast.AnnAssign, ast.Try)

WORDS_BARRED = ["type", "enum", "typing", "open", "input", "law", "elements", "register", "eval", "exec", "globals"]


def sources():
    return [(path, path.read_bytes()) for path in sorted(FOLDER.glob("*.py"))]


def trees():
    return [(path, ast.parse(source)) for path, source in sources()]


def signature(name, function):
    return name + str(inspect.signature(function))


class Interface(unittest.TestCase):

    def test_functions(self):
        for module, wanted in FUNCTIONS.items():
            there = importlib.import_module("editionrows." + module)
            for line in wanted:
                function = getattr(there, line.partition("(")[0])
                self.assertEqual(signature(function.__name__, function), line)
                self.assertEqual(function.__module__, there.__name__)

    def test_methods(self):
        for place, wanted in METHODS.items():
            module, _, name = place.partition(".")
            owner = getattr(importlib.import_module("editionrows." + module), name)
            self.assertEqual(owner.__module__, "editionrows." + module)
            for line in wanted:
                method = line.partition("(")[0]
                self.assertIn(method, vars(owner), place)
                self.assertEqual(signature(method, vars(owner)[method]), line)


class Language(unittest.TestCase):

    def test_files(self):
        names = [path.name for path in FOLDER.iterdir() if path.name != "__pycache__"]
        self.assertIn("__init__.py", names)
        for name in names:
            self.assertRegex(name, r"\A[a-z_]+\.py\Z")

    def test_characters_and_sizes(self):
        for path, source in sources():
            self.assertTrue(all(sign == 10 or 32 <= sign <= 126 for sign in source), path)
            lines = source.decode("ascii").split("\n")
            self.assertLess(len(lines), 400, path)
            self.assertLessEqual(max(len(line) for line in lines), 120, path)

    def test_functions_are_short(self):
        for path, tree in trees():
            for node in ast.walk(tree):
                if isinstance(node, ast.FunctionDef):
                    self.assertLessEqual(node.end_lineno - node.lineno + 1, 40, (path, node.name))
                    self.assertEqual(node.decorator_list, [], (path, node.name))

    def test_imports(self):
        for path, tree in trees():
            names = []
            for node in ast.walk(tree):
                if isinstance(node, ast.ImportFrom):
                    self.assertIn(node, tree.body)
                    self.assertEqual(node.level, 0)
                    self.assertTrue(node.module.startswith("editionrows."), (path, node.module))
                    there = ast.parse((FOLDER / (node.module.partition(".")[2] + ".py")).read_text())
                    self.assertLessEqual({alias.name for alias in node.names}, bound_at_top(there), path)
                    names = names + [alias.name for alias in node.names]
            used = [node.id for node in ast.walk(tree) if isinstance(node, ast.Name)]
            for name in names:
                self.assertIn(name, used, path)
            own = names + [node.name for node in tree.body if isinstance(node, ast.ClassDef)]
            for name in bound_inside(tree):
                self.assertNotIn(name, own, path)

    def test_names_that_are_read(self):
        for path, tree in trees():
            known = bound_at_top(tree) | bound_inside(tree) | set(BUILTINS)
            for node in ast.walk(tree):
                if isinstance(node, ast.ImportFrom):
                    known |= {alias.name for alias in node.names}
            for node in ast.walk(tree):
                self.assertNotIsInstance(node, NODES_BARRED, path)
                if isinstance(node, ast.Name):
                    self.assertIn(node.id, known, path)
                    self.assertNotIn(node.id, WORDS_BARRED, path)

    def test_names_that_are_bound(self):
        # Examples that ran in the same process may have left their last value under this name.
        builtins = set(dir(importlib.import_module("builtins"))) - {"_"}
        for path, tree in trees():
            for name in bound_at_top(tree) | bound_inside(tree):
                self.assertNotIn(name, builtins, path)
                self.assertNotIn(name, WORDS_BARRED, path)

    def test_what_is_sorted(self):
        # Beside an order of its own a class lets only plain numbers and strings be compared by these.
        for path, tree in trees():
            for node in ast.walk(tree):
                if isinstance(node, ast.Call) and isinstance(node.func, ast.Name):
                    if node.func.id == "sorted" or node.func.id in ("min", "max") and len(node.args) == 1:
                        self.assertIsInstance(node.args[0], ast.ListComp, (path, node.lineno))
                        self.assertIn(ast.unparse(node.args[0].elt)[:4], ("int(", "str("), (path, node.lineno))
                    elif node.func.id in ("min", "max"):
                        self.assertIn(True, [ast.unparse(arg)[:4] in ("int(", "len(") for arg in node.args], path)
                    elif node.func.id in ("any", "all", "sum"):
                        self.assertIsInstance(node.args[0], ast.ListComp, (path, node.lineno))

    def test_methods_that_are_called(self):
        own = set()
        for _, tree in trees():
            own |= {node.name for node in ast.walk(tree) if isinstance(node, ast.FunctionDef)}
        for path, tree in trees():
            for node in ast.walk(tree):
                if isinstance(node, ast.Call) and isinstance(node.func, ast.Attribute):
                    self.assertIn(node.func.attr, own | set(PLAIN_METHODS), path)


def bound_at_top(tree):
    found = set()
    for node in tree.body:
        if isinstance(node, (ast.FunctionDef, ast.ClassDef)):
            found.add(node.name)
        if isinstance(node, ast.Assign):
            found |= {target.id for target in node.targets}
    return found


def bound_inside(tree):
    """The names of parameters and local variables."""
    found = {node.arg for node in ast.walk(tree) if isinstance(node, ast.arg)}
    for top in ast.walk(tree):
        if isinstance(top, ast.FunctionDef):
            found |= {node.id for node in ast.walk(top) if isinstance(node, ast.Name)
                      and isinstance(node.ctx, ast.Store)}
    return found


if __name__ == "__main__":
    unittest.main()
