"""The rules L1 to L28 of the language, as far as they can be seen in the files one by one."""

import ast
import builtins
import pathlib
import re
import unittest

PACKAGE = pathlib.Path(__file__).resolve().parent.parent / "woundwalks"
FILES = sorted(PACKAGE.glob("*.py"))

BUILTINS = set("""len range enumerate zip min max sum abs sorted reversed int str bool bytes list tuple dict set
    frozenset isinstance ord repr any all divmod iter next super Exception ValueError TypeError KeyError IndexError
    LookupError ZeroDivisionError ArithmeticError OverflowError RuntimeError NotImplementedError AttributeError
    StopIteration NotImplemented""".split())

METHODS = set("""append clear copy count endswith extend find get index insert isalnum isalpha isdigit islower isspace
    isupper items join keys ljust lower lstrip partition pop remove replace reverse rfind rjust rpartition rsplit rstrip
    setdefault split splitlines startswith strip update upper values zfill bit_length add discard""".split())

DOUBLE = set("""__init__ __eq__ __repr__ __str__ __len__ __enter__ __exit__ __call__ __iter__""".split())

NOT_AS_NAMES = set("""register mro elements open input law version_info with_traceback add_note attrgetter breakpoint
    builtins compile copyright credits delattr dir eval exec exit gc getattr globals hasattr help id importlib license
    locals methodcaller os quit setattr type vars sys""".split())

WORDS = re.compile(r"\b(type|typing|typing_extensions|enum|Enum|IntEnum|StrEnum|Flag|IntFlag|Generic|Protocol|ABC|"
                   r"ABCMeta|namedtuple|NamedTuple|TypedDict|TYPE_CHECKING|abstractmethod)\b"
                   r"|dataclass|overload|contextmanager")

# Some of these the language has in some spots; the package does without them.
BARRED = (ast.Global, ast.AsyncFunctionDef, ast.AsyncFor, ast.AsyncWith, ast.Await, ast.Import, ast.Div, ast.Pow,
          ast.Set, ast.SetComp, ast.GeneratorExp, ast.Lambda, ast.Match, ast.With, ast.Yield, ast.YieldFrom, ast.NamedExpr,
          ast.Nonlocal, ast.AnnAssign, ast.TryStar)


def trees():
    return [(path, ast.parse(path.read_text())) for path in FILES]


def nodes(kind):
    return [(path.name, node) for path, tree in trees() for node in ast.walk(tree) if isinstance(node, kind)]


def bound_names(tree):
    """All names that a file binds, each with the node that does."""
    for node in ast.walk(tree):
        if isinstance(node, (ast.FunctionDef, ast.ClassDef)):
            yield node.name, node
        elif isinstance(node, ast.arg):
            yield node.arg, node
        elif isinstance(node, ast.Name) and isinstance(node.ctx, ast.Store):
            yield node.id, node
        elif isinstance(node, ast.alias):
            yield node.asname or node.name, node
        elif isinstance(node, ast.ExceptHandler) and node.name:
            yield node.name, node


class TestLanguage(unittest.TestCase):
    def test_files(self):
        self.assertIn("__init__.py", [path.name for path in FILES])
        for path in PACKAGE.iterdir():
            self.assertTrue(path.name == "__pycache__" or re.fullmatch(r"[a-z0-9_]+\.py", path.name), path.name)

    def test_signs_and_sizes(self):
        for path in FILES:
            text = path.read_text()
            self.assertTrue(all(sign == "\n" or " " <= sign <= "~" for sign in text), path.name)
            lines = text.splitlines()
            self.assertLessEqual(len(lines), 399, path.name)
            self.assertLessEqual(max(map(len, lines), default=0), 120, path.name)
            self.assertIsNone(WORDS.search(text), path.name)
        for name, node in nodes(ast.FunctionDef):
            self.assertLessEqual(node.end_lineno - node.lineno + 1, 40, (name, node.name))

    def test_module_level(self):
        for path, tree in trees():
            for number, node in enumerate(tree.body):
                if isinstance(node, ast.Assign):
                    self.assertEqual(len(node.targets), 1, path.name)
                    self.assertIsInstance(node.targets[0], ast.Name, path.name)
                    above = {one.name for one in tree.body[:number] if isinstance(one, ast.FunctionDef)}
                    if isinstance(node.value, ast.Dict) and isinstance(node.value.values[0], ast.Name):
                        self.assertLessEqual({one.id for one in node.value.values}, above, path.name)
                        self.assertTrue(all(isinstance(one, ast.Constant) for one in node.value.keys), path.name)
                    else:
                        ast.literal_eval(node.value)
                elif isinstance(node, ast.Expr):
                    self.assertEqual(number, 0, path.name)
                    self.assertIsInstance(node.value.value, str, path.name)
                else:
                    self.assertIsInstance(node, (ast.ImportFrom, ast.FunctionDef, ast.ClassDef), path.name)
            bound = [node.targets[0].id for node in tree.body if isinstance(node, ast.Assign)]
            bound += [node.name for node in tree.body if isinstance(node, (ast.FunctionDef, ast.ClassDef))]
            bound += [alias.name for node in tree.body if isinstance(node, ast.ImportFrom) for alias in node.names]
            self.assertEqual(len(bound), len(set(bound)), path.name)

    def test_imports_name_the_defining_file_and_make_no_ring(self):
        sources = {}
        for path, tree in trees():
            first_other = [number for number, node in enumerate(tree.body) if not isinstance(
                node, (ast.ImportFrom, ast.Expr))][:1]
            for number, node in enumerate(tree.body):
                if isinstance(node, ast.ImportFrom):
                    self.assertTrue(not first_other or number < first_other[0], path.name)
                    self.assertEqual((node.level, node.module.split(".")[0]), (0, "woundwalks"))
                    source = PACKAGE / f"{node.module.split('.')[1]}.py"
                    sources.setdefault(path.name, []).append(source.name)
                    there = ast.parse(source.read_text()).body
                    defined = [one.name for one in there if isinstance(one, (ast.FunctionDef, ast.ClassDef))]
                    defined += [one.targets[0].id for one in there if isinstance(one, ast.Assign)]
                    used = {one.id for one in ast.walk(tree) if isinstance(one, ast.Name)}
                    for alias in node.names:
                        self.assertIsNone(alias.asname)
                        self.assertIn(alias.name, defined)
                        self.assertIn(alias.name, used, path.name)
        done = set()
        while len(done) < len(FILES):
            free = {path.name for path in FILES if set(sources.get(path.name, ())) <= done} - done
            self.assertTrue(free, "files import from each other in a ring")
            done |= free

    def test_names(self):
        for path, tree in trees():
            at_top = {node.name for node in tree.body if isinstance(node, ast.ClassDef)}
            at_top |= {alias.name for node in tree.body if isinstance(node, ast.ImportFrom) for alias in node.names}
            for name, node in bound_names(tree):
                with self.subTest(file=path.name, name=name):
                    self.assertTrue(not name.startswith("_") or name in DOUBLE)
                    self.assertNotIn(name, NOT_AS_NAMES)
                    self.assertTrue(name in DOUBLE or not hasattr(builtins, name))
                    if isinstance(node, (ast.arg, ast.Name)):
                        self.assertNotIn(name, at_top)

    def test_only_known_names_are_read(self):
        for path, tree in trees():
            known = {name for name, node in bound_names(tree)} | BUILTINS
            for node in ast.walk(tree):
                if isinstance(node, ast.Name) and isinstance(node.ctx, ast.Load):
                    self.assertIn(node.id, known, path.name)

    def test_methods_and_attributes(self):
        own = {name for path, tree in trees() for node in ast.walk(tree) if isinstance(node, ast.ClassDef)
               for name in [part.name for part in node.body if isinstance(part, ast.FunctionDef)]}
        for name, node in nodes(ast.Call):
            if isinstance(node.func, ast.Attribute):
                self.assertIn(node.func.attr, METHODS | own, name)

    def test_no_name_is_a_method_and_an_attribute(self):
        own = {part.name for name, node in nodes(ast.ClassDef) for part in node.body if isinstance(part, ast.FunctionDef)}
        stored = {node.attr for name, node in nodes(ast.Attribute) if isinstance(node.ctx, ast.Store)}
        self.assertEqual(own & stored, set())
        for name, node in nodes(ast.Attribute):
            self.assertIn(node.attr, stored | METHODS | own, name)

    def test_statements_and_expressions(self):
        self.assertEqual(nodes(BARRED), [])
        for name, node in nodes(ast.Constant):
            self.assertNotIsInstance(node.value, (float, complex), name)
            if isinstance(node.value, str):
                self.assertNotIn("%", node.value, name)
        for name, node in nodes(ast.Compare):
            for sign, other in zip(node.ops, node.comparators):
                if isinstance(sign, (ast.Is, ast.IsNot)):
                    self.assertTrue(isinstance(other, ast.Constant) and other.value in (None, True, False), name)
        for name, node in nodes(ast.FunctionDef):
            self.assertEqual(node.decorator_list, [], name)
            for default in node.args.defaults + [part for part in node.args.kw_defaults if part]:
                self.assertIsInstance(ast.literal_eval(default), (int, str, tuple, type(None)), name)

    def test_stars_stand_in_no_index_and_no_call(self):
        for name, node in nodes((ast.Subscript, ast.Call)):
            inner = ast.walk(node.slice) if isinstance(node, ast.Subscript) else node.args
            self.assertFalse(any(isinstance(part, ast.Starred) for part in inner), (name, node.lineno))

    def test_only_own_errors_are_caught(self):
        own = {node.name for node in ast.parse((PACKAGE / "errors.py").read_text()).body if isinstance(node, ast.ClassDef)}
        for name, node in nodes(ast.ExceptHandler):
            self.assertIsInstance(node.type, ast.Name, name)
            self.assertIn(node.type.id, own, name)
        for name, node in nodes(ast.Raise):
            self.assertTrue(isinstance(node.exc, ast.Call) and node.exc.func.id in own and node.cause is None, name)
            self.assertEqual(node.exc.keywords, [], name)

    def test_a_finally_only_assigns_what_was_there_ahead(self):
        for name, node in nodes(ast.Try):
            for part in node.finalbody:
                self.assertIsInstance(part, ast.Assign, name)
                for inner in ast.walk(part):
                    self.assertIsInstance(
                        inner, (ast.Assign, ast.Tuple, ast.Name, ast.Attribute, ast.Load, ast.Store), name)

    def test_sets_are_only_sorted_or_counted_where_they_are_made(self):
        made = [node for name, node in nodes(ast.Call) if isinstance(node.func, ast.Name) and node.func.id == "set"]
        used = [part for name, node in nodes(ast.Call) if isinstance(node.func, ast.Name)
                and node.func.id in ("sorted", "len") and not node.keywords for part in node.args]
        self.assertEqual({ast.unparse(node) for node in made} - {ast.unparse(node) for node in used}, set())
        self.assertEqual(len(made), len([node for node in used if ast.unparse(node).startswith("set(")]))

    def test_double_underscore_methods_end_in_a_plain_return(self):
        for name, node in nodes(ast.FunctionDef):
            if node.name in ("__eq__", "__len__"):
                (told,) = node.body
                self.assertIsInstance(told, ast.Return, name)
                if node.name == "__len__":
                    self.assertTrue(isinstance(told.value, ast.Call) and told.value.func.id == "len", name)

    def test_what_a_loop_goes_through_is_not_changed_in_it(self):
        changing = {"append", "clear", "extend", "insert", "pop", "remove", "reverse", "setdefault", "update"}
        for name, loop in nodes(ast.For):
            gone_through = {ast.unparse(part) for part in ast.walk(loop.iter) if isinstance(part, (ast.Name, ast.Attribute))}
            for node in ast.walk(loop):
                changed = None
                if isinstance(node, ast.Call) and isinstance(node.func, ast.Attribute) and node.func.attr in changing:
                    changed = node.func.value
                elif isinstance(node, ast.Subscript) and isinstance(node.ctx, ast.Store):
                    changed = node.value
                if changed is not None and not ast.unparse(loop.iter).startswith("list("):
                    self.assertNotIn(ast.unparse(changed), gone_through, (name, loop.lineno))


if __name__ == "__main__":
    unittest.main()
