"""The form of the code: the rules of the language that can be told from the files of the package."""

import ast
import builtins
import os
import unittest
import warnings

import roomsthrough

FOLDER = os.path.dirname(roomsthrough.__file__)
LIBRARY = {
    "heapq": {"heappush", "heappop", "heapify", "heapreplace", "heappushpop"}, "math": {"comb"}, "itertools": {"product"},
}
BUILTINS = set(
    "len range enumerate zip min max sum abs sorted reversed int str bool list tuple dict set isinstance ord repr any"
    " all divmod super NotImplemented ValueError True False None".split()
)
METHODS = set(
    "append bit_length clear copy count endswith extend find get index insert items join keys lower pop replace"
    " setdefault split startswith strip upper values translate".split()
)
CHANGING = {"append", "clear", "extend", "insert", "pop", "remove", "reverse", "setdefault", "update", "sort"}
DOUBLE = {"__init__", "__eq__", "__or__"}
WORDS = ["type", "typing", "enum", "register", "mro", "elements", "open", "input", "law", "eval", "exec", "globals"]
INTERFACE = {
    "errors": ["MazeError"],
    "rules": ["Rules.bags", "Rules.__eq__"],
    "rooms": ["Room.cell", "Room.mouth", "Room.mirrored", "Room.__eq__"],
    "states": ["begin", "step", "steps", "is_state"],
    "levels": ["Level.part", "Level.with_part", "Level.__eq__", "row_of"],
    "costs": ["costs", "costs_of"],
    "tables": [
        "Table.outcomes", "Table.lets", "Table.within", "Table.__or__", "Table.__eq__", "then", "same", "none",
    ],
    "middle": ["table", "table_of", "met", "is_closed"],
    "plays": ["walk", "is_play", "least", "way", "outcomes"],
    "papers": ["least_paper", "is_least_paper", "told_costs"],
    "frailty": ["options", "frail", "is_safe", "spoiler", "is_spoiler"],
    "grammars": [
        "Grammar.names", "Grammar.__eq__", "joined", "level_of", "is_made", "derivations",
    ],
    "reaching": ["reached", "least_of"],
    "wishes": ["is_wish", "meets"],
    "verdicts": ["every", "some", "verdict_paper", "is_verdict_paper"],
    "books": ["beyond", "book_paper", "is_book_paper"],
    "kin": ["kin", "parting", "is_parting"],
    "prices": ["cheapest", "price_paper", "is_price_paper"],
    "counts": ["count", "count_with", "derivation_at"],
    "endless": ["least_in_row", "row_table", "row_ring"],
    "playing": ["Play.go", "Play.undo", "Play.where", "Play.spoilt", "Play.left", "Play.hint", "Play.trial"],
    "texts": ["write_level", "read_level", "write_grammar", "read_grammar"],
    "studio": [
        "Studio.put", "Studio.drop", "Studio.rules_are", "Studio.begin_at", "Studio.undo", "Studio.every", "Studio.some",
        "Studio.paper", "Studio.still",
    ],
    "fulls": ["Full.weak", "Full.__eq__", "full", "full_of", "fragile", "twins"],
}


def files():
    return sorted(name for name in os.listdir(FOLDER) if name != "__pycache__")


def text_of(name):
    with open(os.path.join(FOLDER, name), encoding="utf-8") as file:
        return file.read()


TREES = {name[:-3]: ast.parse(text_of(name)) for name in files()}


def nodes(kinds):
    """All nodes of some kinds, with the place where they stand."""
    for name, tree in TREES.items():
        for node in ast.walk(tree):
            if isinstance(node, kinds):
                yield (name, getattr(node, "lineno", 0)), node


def bound_in(tree):
    """The names that a file binds anywhere."""
    names = set()
    for node in ast.walk(tree):
        if isinstance(node, (ast.FunctionDef, ast.ClassDef)):
            names.add(node.name)
        elif isinstance(node, ast.arg):
            names.add(node.arg)
        elif isinstance(node, ast.Name) and not isinstance(node.ctx, ast.Load):
            names.add(node.id)
        elif isinstance(node, ast.alias):
            names.add(node.name)
    return names


class FormTest(unittest.TestCase):
    def test_files(self):
        for name in files():
            self.assertRegex(name, r"^[a-z_]+\.py$")
            text = text_of(name)
            self.assertTrue(all(mark == "\n" or " " <= mark <= "~" for mark in text), name)
            self.assertLess(len(text.split("\n")), 400, name)
            self.assertLessEqual(max(map(len, text.split("\n"))), 120, name)
            with warnings.catch_warnings():
                warnings.simplefilter("error")
                compile(text, name, "exec")

    def test_functions_are_small(self):
        for place, node in nodes(ast.FunctionDef):
            self.assertLessEqual(node.end_lineno - node.lineno + 1, 40, place)
            self.assertTrue(not node.name.startswith("__") or node.name in DOUBLE, place)
            self.assertEqual([], node.decorator_list, place)
            self.assertIsNone(node.returns, place)

    def test_statements_and_values(self):
        banned = (
            ast.Global, ast.AsyncFunctionDef, ast.Import, ast.GeneratorExp, ast.Div,
            ast.AnnAssign, ast.YieldFrom, ast.Await, ast.With, ast.Match, ast.Assert, ast.JoinedStr,
        )
        for place, _ in nodes(banned):
            self.fail(place)

    def test_only_own_errors_are_caught(self):
        for place, node in nodes(ast.Try):
            self.assertEqual([], node.orelse, place)
            for handler in node.handlers:
                self.assertIn(handler.type.id, {"TooMany", "BadRoom", "BadGrammar"}, place)
            # Behind a try there are plain names that are assigned to plain attributes, all at once.
            for line in node.finalbody:
                self.assertIsInstance(line, ast.Assign, place)
                self.assertTrue(all(isinstance(part, ast.Name) for part in line.value.elts), place)
                self.assertTrue(all(isinstance(part, ast.Attribute) for part in line.targets[0].elts), place)

    def test_generators_are_iterated_at_once(self):
        own = set()
        for place, node in nodes(ast.FunctionDef):
            if any(isinstance(part, ast.Yield) for part in ast.walk(node)):
                own.add(node.name)
        self.assertEqual({"derivations", "_derived", "_derived_in_row", "rows_behind"}, own)
        self.assertEqual(len(own), len([node for _, node in nodes(ast.FunctionDef) if node.name in own]))
        loops = [node.iter for _, node in nodes(ast.For)]
        for place, node in nodes(ast.Call):
            if isinstance(node.func, ast.Name) and node.func.id in own:
                self.assertIn(node, loops, place)
                for part in node.args:
                    self.assertIsInstance(part, (ast.Name, ast.Attribute, ast.Constant), place)
        statements = [node.value for _, node in nodes(ast.Expr)]
        for place, node in nodes(ast.Yield):
            self.assertIn(node, statements, place)

    def test_constants(self):
        for place, node in nodes(ast.Constant):
            self.assertNotIsInstance(node.value, (float, complex, bytes), place)
            if isinstance(node.value, str):
                self.assertNotIn("%", node.value, place)
                self.assertFalse(node.value.endswith("._") or "__" in node.value, place)

    def test_is_stands_beside_none_and_flags_alone(self):
        for place, node in nodes(ast.Compare):
            for sign, other in zip(node.ops, node.comparators):
                if isinstance(sign, (ast.Is, ast.IsNot)):
                    self.assertIsInstance(other, ast.Constant, place)

    def test_imports(self):
        seen = {}
        for name, tree in TREES.items():
            seen[name] = set()
            for node in ast.walk(tree):
                if isinstance(node, ast.ImportFrom):
                    self.assertIn(node, tree.body)
                    seen[name].add(node.module)
                    self.check_import(name, node)
        for name in seen:
            todo, reached = [name], set()
            while todo:
                for module in seen.get(todo.pop(), ()):
                    module = module.replace("roomsthrough.", "")
                    self.assertNotEqual(name, module)
                    if module not in reached:
                        reached.add(module)
                        todo.append(module)

    def check_import(self, name, node):
        self.assertEqual(0, node.level)
        for alias in node.names:
            self.assertIsNone(alias.asname)
            if node.module in LIBRARY:
                self.assertIn(alias.name, LIBRARY[node.module])
                continue
            home = TREES[node.module.replace("roomsthrough.", "")]
            defined = {part.name for part in home.body if isinstance(part, (ast.FunctionDef, ast.ClassDef))}
            defined |= {part.targets[0].id for part in home.body if isinstance(part, ast.Assign)}
            self.assertIn(alias.name, defined, name)

    def test_imports_are_used(self):
        for name, tree in TREES.items():
            used = {node.id for node in ast.walk(tree) if isinstance(node, ast.Name)}
            for node in tree.body:
                if isinstance(node, ast.ImportFrom):
                    for alias in node.names:
                        self.assertIn(alias.name, used, name)

    def test_names(self):
        for name, tree in TREES.items():
            bound = bound_in(tree)
            for word in bound:
                self.assertNotIn(word, dir(builtins), name)
                self.assertNotIn(word, WORDS, name)
                self.assertFalse(word.startswith("_wall") or word.startswith("__") and word not in DOUBLE, name)
            for node in ast.walk(tree):
                if isinstance(node, ast.Name):
                    self.assertIn(node.id, bound | BUILTINS, name)
        for name in files():
            self.assertNotIn("_" + "wall", text_of(name))

    def test_no_local_name_is_that_of_a_class_an_import_or_a_function_of_its_file(self):
        for name, tree in TREES.items():
            above = {alias.name for node in tree.body if isinstance(node, ast.ImportFrom) for alias in node.names}
            above |= {node.name for node in tree.body if isinstance(node, (ast.ClassDef, ast.FunctionDef))}
            for node in ast.walk(tree):
                if isinstance(node, ast.arg):
                    self.assertNotIn(node.arg, above, name)
                if isinstance(node, ast.Name) and isinstance(node.ctx, ast.Store):
                    self.assertNotIn(node.id, above, name)

    def test_no_comprehension_within_another_one_assigns_a_name_of_its_function(self):
        kinds = (ast.ListComp, ast.DictComp)
        for place, function in nodes(ast.FunctionDef):
            comprehensions = [node for node in ast.walk(function) if isinstance(node, kinds)]
            targets = {node: [part.target for part in node.generators] for node in comprehensions}
            own = {node: {part.id for target in row for part in ast.walk(target) if isinstance(part, ast.Name)}
                   for node, row in targets.items()}
            inside = {id(part) for row in targets.values() for target in row for part in ast.walk(target)}
            names = {part.arg for part in ast.walk(function.args) if isinstance(part, ast.arg)}
            for node in ast.walk(function):
                if isinstance(node, ast.Name) and isinstance(node.ctx, ast.Store) and id(node) not in inside:
                    names.add(node.id)
            for outer in comprehensions:
                for node in ast.walk(outer):
                    if node is not outer and isinstance(node, kinds):
                        self.assertEqual(set(), own[node] & (names | own[outer]), place)

    def test_methods(self):
        own = {node.name for _, node in nodes(ast.FunctionDef)}
        for place, node in nodes(ast.Call):
            if isinstance(node.func, ast.Attribute):
                self.assertIn(node.func.attr, METHODS | own, place)

    def test_module_level(self):
        for name, tree in TREES.items():
            for node in tree.body:
                kinds = (ast.Expr, ast.ImportFrom, ast.FunctionDef, ast.ClassDef, ast.Assign)
                self.assertIsInstance(node, kinds, name)
                if isinstance(node, ast.Expr):
                    self.assertIsInstance(node.value, ast.Constant, name)
                if isinstance(node, ast.Assign):
                    ast.literal_eval(node.value)
            self.assertIsNotNone(ast.get_docstring(tree), name)

    def test_sets_stand_in_len_alone(self):
        for place, _ in nodes((ast.Set, ast.SetComp)):
            self.fail(place)
        calls = [node for _, node in nodes(ast.Call) if isinstance(node.func, ast.Name)]
        inside = [node.args[0] for node in calls if node.func.id == "len"]
        for node in calls:
            if node.func.id == "set":
                self.assertIn(node, inside)

    def test_views_and_ranges_are_iterated_at_once(self):
        for place, node in nodes(ast.Assign):
            if isinstance(node.value, ast.Call) and isinstance(node.value.func, ast.Name):
                self.assertNotIn(node.value.func.id, {"zip", "enumerate", "reversed", "map"}, place)

    def test_what_a_loop_iterates_over_is_not_changed_in_it(self):
        for place, node in nodes(ast.For):
            names = {part.id for part in ast.walk(node.iter) if isinstance(part, ast.Name)} - {"self"}
            for part in [inner for line in node.body for inner in ast.walk(line)]:
                changed = []
                if isinstance(part, ast.Call) and isinstance(part.func, ast.Attribute):
                    changed = [part.func.value] if part.func.attr in CHANGING else []
                elif isinstance(part, (ast.Assign, ast.AugAssign)):
                    targets = part.targets if isinstance(part, ast.Assign) else [part.target]
                    changed = [target.value for target in targets if isinstance(target, (ast.Subscript, ast.Attribute))]
                for thing in changed:
                    while isinstance(thing, (ast.Subscript, ast.Attribute)):
                        thing = thing.value
                    self.assertNotIn(getattr(thing, "id", None), names, place)

    def test_the_interface_is_defined_where_it_is_listed(self):
        for name, wanted in INTERFACE.items():
            defined = set()
            for node in TREES[name].body:
                if isinstance(node, (ast.ClassDef, ast.FunctionDef)):
                    defined.add(node.name)
                if isinstance(node, ast.ClassDef):
                    defined |= {f"{node.name}.{part.name}" for part in node.body if isinstance(part, ast.FunctionDef)}
            self.assertEqual(set(), set(wanted) - defined, name)


if __name__ == "__main__":
    unittest.main()
