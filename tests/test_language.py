"""The rules of the language that a test can see: sizes, characters, names, imports and kinds of statements."""

import ast
import builtins
import pathlib
import unittest

FOLDER = pathlib.Path(__file__).parent.parent / "looksleft"
BUILTINS = {"len", "range", "enumerate", "zip", "min", "max", "sum", "abs", "sorted", "reversed", "int", "str", "bool",
            "bytes", "list", "tuple", "dict", "set", "isinstance", "ord", "repr", "any", "all", "divmod", "iter", "next",
            "property", "ValueError"}
DOUBLE = {"__init__", "__eq__", "__len__", "__iter__", "__contains__"}
BARRED = (ast.Lambda, ast.GeneratorExp, ast.Yield, ast.YieldFrom, ast.Global, ast.Nonlocal, ast.AsyncFunctionDef, ast.Await,
          ast.With, ast.Match, ast.AnnAssign, ast.Div, ast.Starred, ast.Delete)
METHODS = set("""append clear copy count endswith find get index insert isdigit items join keys partition pop
remove replace reverse split startswith strip values bit_length isascii""".split())


def files():
    return {path: ast.parse(path.read_text(encoding="ascii")) for path in sorted(FOLDER.glob("*.py"))}


def nodes(kinds):
    return [(path.name, node) for path, tree in files().items() for node in ast.walk(tree) if isinstance(node, kinds)]


class TestLanguage(unittest.TestCase):

    def test_the_folder_holds_only_files_of_the_package(self):
        found = [path.name for path in FOLDER.iterdir() if path.name != "__pycache__"]
        self.assertEqual([name for name in found if not name.endswith(".py")], [])
        self.assertIn("__init__.py", found)

    def test_sizes_and_characters(self):
        for path in files():
            lines = path.read_text(encoding="ascii").split("\n")
            self.assertLessEqual(len(lines), 399, path.name)
            for at, line in enumerate(lines, 1):
                self.assertLessEqual(len(line), 120, f"{path.name}:{at}")
                self.assertTrue(all(" " <= mark <= "~" for mark in line), f"{path.name}:{at}")
                self.assertEqual(line, line.rstrip(), f"{path.name}:{at}")
        for name, node in nodes(ast.FunctionDef):
            self.assertLessEqual(node.end_lineno - node.lineno + 1, 40, f"{name}: {node.name}")

    def test_kinds_of_statements(self):
        for name, node in nodes(BARRED):
            self.fail(f"{name}:{node.lineno}: {type(node).__name__}")
        for name, node in nodes(ast.Constant):
            self.assertNotIsInstance(node.value, float, f"{name}:{node.lineno}")
        for name, node in nodes(ast.FunctionDef):
            self.assertIn([decorator.id for decorator in node.decorator_list], ([], ["property"]), f"{name}: {node.name}")

    def test_nothing_is_added_to_what_it_came_from(self):
        # L5 Iteration and L23: where `+=` gets literal integers alone, it never gets what it changes.
        for name, node in nodes(ast.AugAssign):
            self.assertIsInstance(node.op, (ast.Add, ast.Sub), f"{name}:{node.lineno}")
            self.assertIsInstance(node.value, ast.Constant, f"{name}:{node.lineno}")
            self.assertIs(type(node.value.value), int, f"{name}:{node.lineno}")

    def test_module_level(self):
        for path, tree in files().items():
            for at, node in enumerate(tree.body):
                kinds = (ast.FunctionDef, ast.ClassDef, ast.ImportFrom)
                plain = isinstance(node, ast.Assign) and isinstance(node.value, ast.Constant)
                docstring = at == 0 and isinstance(node, ast.Expr)
                self.assertTrue(isinstance(node, kinds) or plain or docstring, f"{path.name}:{node.lineno}")

    def test_imports_name_the_file_that_defines(self):
        defined = {f"looksleft.{path.stem}": {getattr(node, "name", None) or node.targets[0].id for node in tree.body
                                              if isinstance(node, (ast.FunctionDef, ast.ClassDef, ast.Assign))}
                   for path, tree in files().items()}
        wanted = {}
        for path, tree in files().items():
            found = []
            for node in ast.walk(tree):
                self.assertNotIsInstance(node, ast.Import)
                if isinstance(node, ast.ImportFrom):
                    self.assertIn(node.module, defined)
                    self.assertLessEqual({alias.name for alias in node.names}, defined[node.module])
                    self.assertTrue(all(alias.asname is None for alias in node.names))
                    found += [alias.name for alias in node.names]
                    wanted.setdefault(path.stem, set()).add(node.module.split(".")[1])
            self.assertEqual(len(found), len(set(found)))
            used = {node.id for node in ast.walk(tree) if isinstance(node, ast.Name)}
            self.assertLessEqual(set(found), used, path.name)
            self.check_names(path, tree, set(found))
        self.check_no_circle(wanted)

    def check_names(self, path, tree, imported):
        """No parameter or variable has the name of an import, a class or a builtin."""
        classes = {node.name for node in tree.body if isinstance(node, ast.ClassDef)}
        bound = {node.arg for node in ast.walk(tree) if isinstance(node, ast.arg)}
        bound |= {node.id for node in ast.walk(tree) if isinstance(node, ast.Name) and isinstance(node.ctx, ast.Store)}
        functions = {node.name for node in tree.body if isinstance(node, ast.FunctionDef)}
        self.assertEqual(bound & (imported | classes | set(vars(builtins))), set(), path.name)
        self.assertEqual(bound & functions, set(), path.name)
        self.assertEqual(functions & set(vars(builtins)), set(), path.name)
        for name in bound | functions | classes:
            self.assertFalse(name.startswith("__"), name)

    def check_no_circle(self, wanted):
        done = set()
        while len(done) < len(wanted):
            free = {name for name, needs in wanted.items() if name not in done and not needs & (set(wanted) - done)}
            self.assertTrue(free, f"a circle among {set(wanted) - done}")
            done |= free

    def test_calls_and_methods(self):
        own = {node.name for _, node in nodes((ast.FunctionDef, ast.ClassDef))}
        for name, node in nodes(ast.Call):
            if isinstance(node.func, ast.Name):
                allowed = node.func.id in own | BUILTINS or not hasattr(builtins, node.func.id)
                self.assertTrue(allowed, f"{name}:{node.lineno}: {node.func.id}")
            else:
                self.assertIn(node.func.attr, own | METHODS, f"{name}:{node.lineno}")
        for name, node in nodes(ast.ClassDef):
            double = [item.name for item in node.body if isinstance(item, ast.FunctionDef) and item.name.startswith("__")]
            self.assertLessEqual(set(double), DOUBLE, f"{name}: {node.name}")

    def test_sets_are_only_measured_and_sorted(self):
        for path, tree in files().items():
            calls = [node for node in ast.walk(tree) if isinstance(node, ast.Call) and isinstance(node.func, ast.Name)]
            kept = [argument for call in calls if call.func.id in ("sorted", "len") for argument in call.args]
            for node in ast.walk(tree):
                is_set = isinstance(node, (ast.Set, ast.SetComp))
                if is_set or isinstance(node, ast.Call) and isinstance(node.func, ast.Name) and node.func.id == "set":
                    self.assertIn(node, kept, f"{path.name}:{node.lineno}")

    def test_only_own_errors_are_caught(self):
        for name, node in nodes(ast.ExceptHandler):
            kinds = node.type.elts if isinstance(node.type, ast.Tuple) else [node.type]
            for kind in kinds:
                self.assertFalse(hasattr(builtins, kind.id), f"{name}:{node.lineno}")

    def test_is_stands_beside_none_true_and_false(self):
        for name, node in nodes(ast.Compare):
            for operator, right in zip(node.ops, node.comparators):
                if isinstance(operator, (ast.Is, ast.IsNot)):
                    self.assertIn(repr(getattr(right, "value", right)), ("None", "True", "False"), f"{name}:{node.lineno}")

    def test_the_interface_is_defined_in_its_files(self):
        listed = {
            "trees": "Tree neighbours ends way distance middle on_way side span read_tree",
            "stores": "Store made_in written read_store", "running": "Running is_script run",
            "books": "is_books is_book_fault book_fault earliest is_moments script_of seen is_standing stand",
            "looks": "Look borders is_looks count_look", "pictures": "arrows is_picture picture looks_fit",
            "histories": "is_fitting history is_history",
            "ahead": "ahead is_ahead verdict why_ahead is_paper behind_books closed with_lot",
            "rows": "count_rows is_row row_of open_pairs row_at row_books",
            "needs": "needless needs stretch apart is_needs is_apart",
            "later": "no_later is_no_later why_no_later is_why_no_later earlier_standing",
            "come": "least greatest can_have fate count_lots lot_at",
            "reasons": "why_come why_missing is_why_come is_why_missing have_history",
            "shown": "shown shown_history at_last last_books common sure_common common_books",
            "pasts": "least_past greatest_past is_past can_be_past past_picture",
            "whole": "past_history is_past_history resume",
            "clocks": "sooner_pairs sooner_by is_pairs clock_ring is_clock_ring clock_history",
            "partly": "least_by greatest_by can_have_by",
            "balance": "last_lot own_lines exchanges copies parting",
            "tables": "is_last_table count_last_tables table_books",
            "asks": "is_answers verdict_of next_ask alone parted_books", "desk": "Desk", "journal": "read_desk"}
        methods = {"Tree": "__init__ __len__ __contains__ __eq__ line", "Store": "__init__ __len__ __eq__ line",
                   "Running": "__init__ make hand book under_way shows finished script settle",
                   "Look": "__init__ __len__ __contains__ __iter__ __eq__ come",
                   "Desk": "__init__ looks add drop undo redo tried ahead least greatest shown past lines"}
        self.assertLessEqual(set(listed), {path.stem for path in files()})
        for path, tree in files().items():
            here = {node.name: node for node in tree.body if isinstance(node, (ast.FunctionDef, ast.ClassDef))}
            for name in listed.get(path.stem, "").split():
                self.assertIn(name, here, path.name)
                if name in methods:
                    inside = {node.name for node in here[name].body if isinstance(node, ast.FunctionDef)}
                    self.assertLessEqual(set(methods[name].split()), inside, name)


if __name__ == "__main__":
    unittest.main()
