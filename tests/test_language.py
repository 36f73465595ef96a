"""The package keeps to the small language it is written in, as far as its code shows it by itself."""

import ast
import builtins
import pathlib
import tokenize

from tests.helpers import Case

FOLDER = pathlib.Path(__file__).resolve().parent.parent / "agedcopy"
BUILTINS = set("""len range enumerate zip min max sum abs sorted reversed int str bool list tuple dict set isinstance ord
                  repr any all divmod iter map Exception ValueError TypeError KeyError IndexError LookupError""".split())
METHODS = set("""append clear copy count endswith extend find get index insert isdigit items join keys pop remove replace
                 reverse setdefault split startswith strip update values add discard bit_length""".split())
DOUBLE = {"__init__", "__eq__", "__repr__", "__str__", "__len__"}
STATEMENTS = (ast.Assign, ast.AugAssign, ast.If, ast.While, ast.For, ast.Return, ast.Break, ast.Continue, ast.Pass,
              ast.Raise, ast.Assert, ast.Delete, ast.Expr, ast.FunctionDef, ast.ClassDef, ast.ImportFrom, ast.Try)
WORDS = set("""register mro elements open input law type typing enum Flag Protocol ABC namedtuple compile copyright dir
               eval exec exit gc getattr globals hasattr help id license locals os quit setattr super vars""".split())
LIBRARY = {"heapq", "math", "itertools", "collections"}


def parents(tree):
    return {child: node for node in ast.walk(tree) for child in ast.iter_child_nodes(node)}


def functions(tree):
    return [node for node in ast.walk(tree) if isinstance(node, ast.FunctionDef)]


def parameters(function):
    told = function.args
    found = told.posonlyargs + told.args + told.kwonlyargs + [told.vararg, told.kwarg]
    return [node.arg for node in found if node is not None]


def bound_names(function):
    """The parameters and local variables of a function."""
    stored = [node.id for node in ast.walk(function) if isinstance(node, ast.Name) and isinstance(node.ctx, ast.Store)]
    return parameters(function) + stored


def is_called_by(node, above, names):
    call = above[node]
    return isinstance(call, ast.Call) and isinstance(call.func, ast.Name) and call.func.id in names


class LanguageTest(Case):
    def setUp(self):
        self.paths = sorted(path for path in FOLDER.rglob("*") if "__pycache__" not in path.parts)
        self.texts = {path.stem: path.read_text(encoding="utf-8") for path in self.paths}
        self.trees = {name: ast.parse(text) for name, text in self.texts.items()}

    def each(self, *kinds):
        for name, tree in self.trees.items():
            for node in ast.walk(tree):
                if isinstance(node, kinds):
                    yield f"{name}:{getattr(node, 'lineno', 0)}", node

    def test_files(self):
        self.assertLess(len(self.paths), 100)
        for path in self.paths:
            self.assertEqual(path.suffix, ".py")
            self.assertRegex(path.stem, "^([a-z][a-z0-9]*|__init__)$")
            self.assertEqual(path.parent, FOLDER)

    def test_size_and_characters(self):
        for name, text in self.texts.items():
            lines = text.split("\n")
            self.assertLess(len(lines), 400, name)
            self.assertLess(max(map(len, lines)), 121, name)
            self.assertTrue(all(" " <= sign <= "~" or sign == "\n" for sign in text), name)
        for place, node in self.each(ast.FunctionDef):
            self.assertLess(node.end_lineno - node.lineno, 40, place)

    def test_statements(self):
        for place, node in self.each(ast.stmt):
            self.assertIsInstance(node, STATEMENTS, place)
        for place, node in self.each(ast.FunctionDef, ast.ClassDef):
            self.assertEqual(node.decorator_list, [], place)
        for place, node in self.each(ast.Div, ast.NamedExpr, ast.Starred, ast.MatMult):
            self.fail(place)

    def test_module_level(self):
        for name, tree in self.trees.items():
            self.assertIsNotNone(ast.get_docstring(tree), name)
            names = [alias.name for node in tree.body if isinstance(node, ast.ImportFrom) for alias in node.names]
            for node in tree.body[1:]:
                if isinstance(node, ast.Assign):
                    self.check_plain(node.value, [part.name for part in tree.body if isinstance(part, ast.FunctionDef)
                                                  and part.lineno < node.lineno])
                    names.append(node.targets[0].id)
                else:
                    self.assertIsInstance(node, (ast.ImportFrom, ast.FunctionDef, ast.ClassDef), name)
                    if not isinstance(node, ast.ImportFrom):
                        names.append(node.name)
            self.assertEqual(len(names), len(set(names)), name)

    def check_plain(self, node, above):
        """A plain value: literals, and tables of these and of functions defined above."""
        if isinstance(node, ast.Dict):
            for part in (*node.keys, *node.values):
                self.check_plain(part, above)
        elif isinstance(node, ast.Tuple):
            for part in node.elts:
                self.check_plain(part, above)
        elif isinstance(node, ast.Name):
            self.assertIn(node.id, above)
        else:
            ast.literal_eval(node)

    def test_imports(self):
        uses = {}
        for name, tree in self.trees.items():
            uses[name] = []
            for node in tree.body:
                if not isinstance(node, ast.ImportFrom) or node.module in LIBRARY:
                    continue
                package, _, module = node.module.partition(".")
                self.assertEqual((package, node.level), ("agedcopy", 0), name)
                uses[name].append(module)
                self.check_defined(module, node)
        done = []
        while len(done) < len(uses):
            fresh = [name for name in uses if name not in done and all(other in done for other in uses[name])]
            self.assertTrue(fresh, "a ring of imports")
            done += fresh

    def check_defined(self, module, node):
        body = self.trees[module].body
        own = [part.name for part in body if isinstance(part, (ast.FunctionDef, ast.ClassDef))]
        own += [part.targets[0].id for part in body if isinstance(part, ast.Assign)]
        for alias in node.names:
            self.assertIsNone(alias.asname)
            self.assertIn(alias.name, own)

    def test_imports_are_used(self):
        for name, tree in self.trees.items():
            read = {node.id for node in ast.walk(tree) if isinstance(node, ast.Name)}
            for node in tree.body:
                if isinstance(node, ast.ImportFrom):
                    self.assertLessEqual({alias.name for alias in node.names}, read, name)

    def test_builtins(self):
        every = {name for name in vars(builtins) if not name.startswith("_")}
        for place, node in self.each(ast.Name):
            if isinstance(node.ctx, ast.Load) and node.id in every:
                self.assertIn(node.id, BUILTINS, place)
            if isinstance(node.ctx, ast.Store):
                self.assertNotIn(node.id, every, place)
        for place, node in self.each(ast.FunctionDef):
            self.assertFalse(set(parameters(node)) & every, place)

    def test_names(self):
        for place, node in self.each(ast.FunctionDef):
            self.assertTrue(not node.name.startswith("__") or node.name in DOUBLE, place)
        for place, node in self.each(ast.Name, ast.Attribute, ast.FunctionDef, ast.ClassDef, ast.arg):
            for field in ("id", "attr", "name", "arg"):
                self.assertNotIn(getattr(node, field, None), WORDS, place)
            self.assertFalse(getattr(node, "id", "").startswith("__"), place)
        for place, node in self.each(ast.Name):
            self.assertFalse(node.id == "_" and isinstance(node.ctx, ast.Load), place)

    def test_locals_have_no_name_of_an_import_or_class(self):
        for name, tree in self.trees.items():
            taken = {alias.name for node in tree.body if isinstance(node, ast.ImportFrom) for alias in node.names}
            taken |= {node.name for node in tree.body if isinstance(node, ast.ClassDef)}
            for function in functions(tree):
                self.assertFalse(taken & set(bound_names(function)), f"{name}.{function.name}")

    def test_methods(self):
        own = {node.name for _, node in self.each(ast.FunctionDef)}
        for place, node in self.each(ast.Call):
            if isinstance(node.func, ast.Attribute):
                self.assertIn(node.func.attr, METHODS | own, place)
            if isinstance(node.func, ast.Name) and node.func.id in BUILTINS:
                self.assertLessEqual({part.arg for part in node.keywords}, {"key", "default", "reverse", "start"}, place)

    def test_no_generator_expression_but_in_a_list_or_tuple(self):
        for tree in self.trees.values():
            above = parents(tree)
            for node in ast.walk(tree):
                if isinstance(node, ast.GeneratorExp):
                    self.assertTrue(is_called_by(node, above, ("list", "tuple", "dict")))

    def test_sets_are_not_iterated(self):
        for name, tree in self.trees.items():
            above = parents(tree)
            for node in ast.walk(tree):
                made = isinstance(node, (ast.Set, ast.SetComp))
                called = isinstance(node, ast.Call) and isinstance(node.func, ast.Name) and node.func.id == "set"
                if made or called:
                    kept = isinstance(above[node], (ast.Assign, ast.Compare))
                    self.assertTrue(kept or is_called_by(node, above, ("sorted", "len")), f"{name}:{node.lineno}")

    def test_is(self):
        for place, node in self.each(ast.Compare):
            for sign, other in zip(node.ops, node.comparators):
                if isinstance(sign, (ast.Is, ast.IsNot)):
                    self.assertIsInstance(other, ast.Constant, place)
                    self.assertIn(other.value, (None, True, False), place)

    def test_values(self):
        for place, node in self.each(ast.Constant):
            self.assertIsInstance(node.value, (int, str, bool, type(None)), place)
            self.assertNotIn("%", node.value if isinstance(node.value, str) else "", place)
        for path in self.paths:
            with tokenize.open(path) as source:
                for token in tokenize.generate_tokens(source.readline):
                    if token.type == tokenize.STRING:
                        rest = token.string.replace("\\\\", "").replace("\\n", "").replace("\\\"", "")
                        self.assertNotIn("\\", rest, path)

    def test_errors_are_raised_on_the_spot(self):
        errors = {node.name for node in self.trees["errors"].body if isinstance(node, ast.ClassDef)}
        for place, node in self.each(ast.Raise):
            self.assertIsInstance(node.exc, ast.Call, place)
            self.assertIn(node.exc.func.id, errors, place)
            self.assertEqual((len(node.exc.args), node.exc.keywords), (1, []), place)

    def test_loops_do_not_change_what_they_go_over(self):
        for place, node in self.each(ast.For):
            gone_over = {ast.dump(part) for part in ast.walk(node.iter) if isinstance(part, (ast.Name, ast.Attribute))}
            for part in ast.walk(ast.Module(node.body, [])):
                if isinstance(part, ast.Call) and isinstance(part.func, ast.Attribute):
                    if part.func.attr in ("append", "pop", "extend", "insert", "remove", "clear", "update"):
                        self.assertNotIn(ast.dump(part.func.value), gone_over, place)
