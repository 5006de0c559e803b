"""Judges the sources of the package by the rules of its language that are easily judged, some more narrowly."""

import ast
import builtins
import unittest
from pathlib import Path

FOLDER = Path(__file__).resolve().parent.parent / "threetiles"
LIBRARY = {
    "math": {"gcd", "lcm", "isqrt", "comb", "perm", "factorial"},
    "itertools": {"product", "combinations", "permutations"},
}
CALLED = set(
    "len range enumerate zip min max sum abs sorted reversed int str bool list tuple dict set isinstance ord "
    "repr any all divmod".split())
NAMED = {"ValueError", "NotImplemented", "KeyError"}
METHODS = {
    "__init__", "__eq__", "__add__", "__radd__", "__sub__", "__rsub__", "__mul__", "__rmul__", "__neg__"}
PLAIN = set(
    "append extend get index insert items pop endswith isdecimal join lstrip partition rfind split zfill".split())
OWN = set(
    "over less sign whole nearest turned has_corner sides has_tile tiles_at across near tiles_over around has is_empty "
    "met led grown within let_point is_bounded corners area parted _ways tell deny back told denied fitting word trying "
    "_keep".split())
INTERFACE = {
    "roots": "Root", "points": "is_point added taken scaled square",
    "corners": "stepped turned mirrored greater lesser place star corner_at corner_with",
    "tiles": "tile_corners ribbons_of", "floors": "barred Floor", "pieces": "Piece",
    "bars": "bars press is_bars is_press", "lots": "left_of covered window lozenge tile_bounds",
    "heaps": "heap_piece held is_held", "words": "word is_word word_in possible nearest_open",
    "leasts": "least_lots cheapest_lot", "absents": "with_absent is_tree",
    "ribbons": "crossing along far_along side_of side_word side_bound", "slides": "slides is_slides",
    "copies": "heap_moved copies nearest_copy reach is_reach_lot",
    "kinds": "kinds kind_lot surroundings share_of share_with", "programs": "is_program walk trail",
    "outcomes": "outcomes is_outcomes ends kinds_led goings farthest",
    "walkers": "alike comes_home is_alike needless meeting",
    "greater": "greater_floor lesser_floor led_up lowered stands seam",
    "moving": "moved_by parting_tile floor_moved floor_turned floor_mirrored symmetries", "asking": "asks is_plan",
    "strangers": "refuted", "desks": "Desk",
    "texts": "number_text read_number write_heap write_floor write_program read_heap read_floor read_program",
}
# The methods that the interface lists stand in the class itself.
LISTED = {
    "Root": "over less sign whole nearest turned __init__ __eq__ __add__ __radd__ __sub__ __rsub__ __mul__ __rmul__ __neg__",
    "Floor": "__init__ __eq__ has_corner has_tile sides tiles_at across near tiles_over around",
    "Piece": "__init__ __eq__ has is_empty within is_bounded met led grown let_point corners area parted",
    "Desk": "__init__ tell deny back told denied fitting word trying",
}
BARRED = set("register mro elements open input law type typing enum id vars dir eval exec super".split())


def sources():
    return sorted(FOLDER.glob("*.py"))


def trees():
    return [(path, ast.parse(path.read_text())) for path in sources()]


def functions(tree):
    return [node for node in ast.walk(tree) if isinstance(node, ast.FunctionDef)]


def assigned(function):
    names = [part.arg for part in function.args.args]
    for node in ast.walk(function):
        if isinstance(node, ast.Name) and isinstance(node.ctx, ast.Store):
            names.append(node.id)
    return names


class TestLanguage(unittest.TestCase):
    def test_folder_holds_sources_alone(self):
        for path in FOLDER.iterdir():
            self.assertTrue(path.suffix == ".py" or path.name == "__pycache__", path)

    def test_sizes_and_signs(self):
        for path in sources():
            text = path.read_text()
            self.assertTrue(all(" " <= sign <= "~" or sign == "\n" for sign in text), path)
            lines = text.splitlines()
            self.assertLessEqual(len(lines), 399, path)
            self.assertLessEqual(max(map(len, lines)), 120, path)
            for function in functions(ast.parse(text)):
                self.assertLessEqual(function.end_lineno - function.lineno + 1, 40, function.name)

    def test_imports(self):
        for path, tree in trees():
            for node in ast.walk(tree):
                self.assertNotIsInstance(node, ast.Import, path)
                if isinstance(node, ast.ImportFrom):
                    self.assertIn(node, tree.body)
                    self.assertEqual(node.level, 0)
                    self.assertTrue(all(part.asname is None for part in node.names))
                    names = {part.name for part in node.names}
                    if node.module in LIBRARY:
                        self.assertLessEqual(names, LIBRARY[node.module])
                        continue
                    self.assertTrue(node.module.startswith("threetiles."), path)
                    other = ast.parse((FOLDER / (node.module.split(".")[1] + ".py")).read_text())
                    defined = {part.name for part in other.body if hasattr(part, "name")}
                    for part in other.body:
                        if isinstance(part, ast.Assign):
                            defined.add(part.targets[0].id)
                    self.assertLessEqual(names, defined, path)

    def test_statements(self):
        barred = (
            ast.AugAssign, ast.Global, ast.With, ast.Match, ast.AsyncFunctionDef, ast.GeneratorExp,
            ast.Lambda, ast.Div, ast.Yield, ast.NamedExpr, ast.Assert)
        for path, tree in trees():
            for node in ast.walk(tree):
                self.assertNotIsInstance(node, barred, path)
                if isinstance(node, ast.Constant):
                    self.assertNotIsInstance(node.value, (float, complex, bytes), path)
            for node in tree.body:
                kinds = (ast.ImportFrom, ast.FunctionDef, ast.ClassDef, ast.Assign, ast.Expr)
                self.assertIsInstance(node, kinds, path)

    def test_names(self):
        for path, tree in trees():
            imported = [part.name for node in tree.body if isinstance(node, ast.ImportFrom) for part in node.names]
            classes = [node.name for node in tree.body if isinstance(node, ast.ClassDef)]
            top = [node.name for node in tree.body if hasattr(node, "name")]
            self.assertEqual(len(set(top + imported)), len(top + imported), path)
            for function in functions(tree):
                self.assertEqual(function.decorator_list, [])
                if function.name.startswith("__"):
                    self.assertIn(function.name, METHODS)
                names = assigned(function)
                if not function.name.startswith("__"):
                    names.append(function.name)
                for name in names:
                    self.assertFalse(name != "_" and hasattr(builtins, name), (path, name))
                    self.assertNotIn(name, BARRED, path)
                for name in assigned(function):
                    self.assertNotIn(name, imported + classes, (path, function.name))

    def test_all_that_is_imported_is_used(self):
        for path, tree in trees():
            used = [node.id for node in ast.walk(tree) if isinstance(node, ast.Name)]
            for node in tree.body:
                if isinstance(node, ast.ImportFrom):
                    for part in node.names:
                        self.assertIn(part.name, used, path)

    def test_no_files_import_from_each_other(self):
        needs = {}
        for path, tree in trees():
            modules = [node.module for node in tree.body if isinstance(node, ast.ImportFrom)]
            needs[path.stem] = [module.split(".")[1] for module in modules if module.startswith("threetiles.")]
        done = set()
        while len(done) < len(needs):
            fresh = [name for name in needs if name not in done and set(needs[name]) <= done]
            self.assertTrue(fresh, sorted(set(needs) - done))
            done.update(fresh)

    def test_interface_is_defined_where_it_is_listed(self):
        for name, listed in INTERFACE.items():
            path = FOLDER / (name + ".py")
            defined = [part.name for part in ast.parse(path.read_text()).body if hasattr(part, "name")]
            self.assertLessEqual(set(listed.split()), set(defined), name)

    def test_methods_stand_in_their_class(self):
        found = {}
        for path, tree in trees():
            for node in tree.body:
                if isinstance(node, ast.ClassDef) and node.name in LISTED:
                    found[node.name] = [part.name for part in node.body if isinstance(part, ast.FunctionDef)]
        for name, listed in LISTED.items():
            self.assertLessEqual(set(listed.split()), set(found[name]), name)

    def test_tries_only_put_back(self):
        for path, tree in trees():
            for node in ast.walk(tree):
                if isinstance(node, ast.Try):
                    self.assertEqual((node.handlers, node.orelse, len(node.finalbody)), ([], [], 1), path)
                    last = node.finalbody[0]
                    self.assertIsInstance(last, ast.Assign)
                    self.assertIsInstance(last.targets[0], ast.Attribute)
                    self.assertIsInstance(last.value, ast.Name)

    def test_exponents(self):
        for path, tree in trees():
            for node in ast.walk(tree):
                if isinstance(node, ast.BinOp) and isinstance(node.op, ast.Pow):
                    power = node.right
                    if isinstance(power, ast.BinOp):
                        # The rest of what surely is an integer.
                        self.assertIsInstance(power.op, ast.Mod)
                        self.assertEqual(power.left.func.id, "len")
                        power = power.right
                        self.assertLessEqual(power.value, 65)
                    else:
                        self.assertLessEqual(power.value, 64)

    def test_tables_hold_plain_values(self):
        for path, tree in trees():
            for node in tree.body:
                if isinstance(node, ast.Assign):
                    for part in ast.walk(node.value):
                        self.assertNotIsInstance(part, (ast.Name, ast.Call), (path, node.targets[0].id))

    def test_sets_stand_where_they_may(self):
        for path, tree in trees():
            allowed = []
            for node in ast.walk(tree):
                if isinstance(node, ast.Call) and isinstance(node.func, ast.Name) and node.func.id in ("len", "sorted"):
                    allowed.extend(node.args)
            for node in ast.walk(tree):
                self.assertNotIsInstance(node, (ast.Set, ast.SetComp), path)
                if isinstance(node, ast.Call) and isinstance(node.func, ast.Name) and node.func.id == "set":
                    self.assertIn(node, allowed, path)

    def test_methods_of_builtin_values(self):
        for path, tree in trees():
            for node in ast.walk(tree):
                if isinstance(node, ast.Call) and isinstance(node.func, ast.Attribute):
                    self.assertIn(node.func.attr, OWN | PLAIN, path)
                    self.assertEqual(node.keywords, [], path)

    def test_combinations_are_iterated_at_once(self):
        for path, tree in trees():
            heads = [node.iter for node in ast.walk(tree) if isinstance(node, (ast.For, ast.comprehension))]
            for node in ast.walk(tree):
                if isinstance(node, ast.Call) and isinstance(node.func, ast.Name) and node.func.id in LIBRARY["itertools"]:
                    self.assertIn(node, heads, path)

    def test_calls(self):
        for path, tree in trees():
            for node in ast.walk(tree):
                if isinstance(node, ast.Name) and node.id != "_" and hasattr(builtins, node.id):
                    self.assertIn(node.id, CALLED | NAMED, path)
                if isinstance(node, ast.Attribute):
                    self.assertNotIn(node.attr, ("sort", "format", "mro", "args"), path)


if __name__ == "__main__":
    unittest.main()
