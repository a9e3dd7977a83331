"""What ../shared/LANGUAGE.md asks of the files of the package, as far as a look at each file shows it."""

import ast
import builtins
import io
import os
import re
import tokenize
import unittest

TOP = os.path.join(os.path.dirname(os.path.dirname(os.path.abspath(__file__))), "minusless")
FILES = sorted(name for name in os.listdir(TOP) if name.endswith(".py"))
TREES = {}
TEXTS = {}
for _name in FILES:
    with open(os.path.join(TOP, _name), encoding="utf-8") as _file:
        TEXTS[_name] = _file.read()
    TREES[_name] = ast.parse(TEXTS[_name])

CALLED_BUILTINS = set("""len range enumerate zip min max sum abs sorted reversed int str bool list tuple dict set isinstance
    ord repr any all divmod iter""".split())
BUILTIN_METHODS = set("""append clear copy count endswith extend find get index insert isalnum isalpha isdigit islower isspace
    isupper items join keys ljust lower lstrip partition pop remove replace reverse rfind rjust rpartition rsplit rstrip
    setdefault split splitlines startswith strip update upper values zfill bit_length removeprefix removesuffix""".split())
LIBRARY = {"math": {"gcd", "lcm", "isqrt", "comb", "perm", "factorial"}}
DUNDERS = set("""__init__ __eq__ __len__ __iter__ __getitem__ __contains__ __mul__ __add__ __invert__ __bool__
    __call__ __enter__ __exit__""".split())
NOT_USED = (ast.Lambda, ast.GeneratorExp, ast.Set, ast.SetComp, ast.Global, ast.Nonlocal, ast.Match,
            ast.NamedExpr, ast.Delete, ast.Assert, ast.Import, ast.AsyncFunctionDef, ast.Await, ast.Div, ast.Pow,
            ast.MatMult, ast.AnnAssign, ast.TryStar)
NAMES_NOT_USED = set("""register mro elements open input law version_info with_traceback add_note attrgetter breakpoint
    compile copyright credits delattr dir eval exec exit gc getattr globals hasattr help id importlib license locals
    methodcaller os quit setattr super type vars sys""".split())
WORDS_NOT_USED = re.compile(r"\b(type|typing|typing_extensions|enum|Enum|IntEnum|StrEnum|Flag|IntFlag|Generic|Protocol|ABC|"
                            r"ABCMeta|namedtuple|NamedTuple|TypedDict|TYPE_CHECKING|abstractmethod)\b|"
                            r"dataclass|overload|contextmanager")
AT_ONCE = {"zip", "enumerate", "reversed", "range", "items", "keys", "values"}
TAKERS = {"list", "tuple", "dict", "sorted", "sum", "any", "all", "enumerate", "zip", "min", "max"}


def functions(tree):
    return [node for node in ast.walk(tree) if isinstance(node, ast.FunctionDef)]


def is_generator(function):
    return any(isinstance(node, (ast.Yield, ast.YieldFrom)) for node in ast.walk(function))


def called_name(node):
    if isinstance(node, ast.Call):
        if isinstance(node.func, ast.Name):
            return node.func.id
        if isinstance(node.func, ast.Attribute):
            return node.func.attr
    return None


def parents(tree):
    return {child: node for node in ast.walk(tree) for child in ast.iter_child_nodes(node)}


def stored_names(tree):
    for node in ast.walk(tree):
        if isinstance(node, ast.Name) and isinstance(node.ctx, ast.Store):
            yield node.id
        elif isinstance(node, ast.arg):
            yield node.arg
        elif isinstance(node, ast.ExceptHandler) and node.name:
            yield node.name


def imports(tree):
    return [node for node in tree.body if isinstance(node, ast.ImportFrom)]


def imported_names(tree):
    return {alias.name for node in imports(tree) for alias in node.names}


def defined(tree):
    found = {node.name for node in tree.body if isinstance(node, (ast.FunctionDef, ast.ClassDef))}
    return found | {node.targets[0].id for node in tree.body if isinstance(node, ast.Assign)}


CLASSES = {node.name: node for tree in TREES.values() for node in tree.body if isinstance(node, ast.ClassDef)}
METHODS = {node.name for kind in CLASSES.values() for node in kind.body if isinstance(node, ast.FunctionDef)}
CLASS_VALUES = {target.id for kind in CLASSES.values() for node in kind.body if isinstance(node, ast.Assign)
                for target in node.targets}
ATTRIBUTES = {node.attr for tree in TREES.values() for node in ast.walk(tree)
              if isinstance(node, ast.Attribute) and isinstance(node.ctx, ast.Store)}
GENERATORS = {node.name for tree in TREES.values() for node in functions(tree) if is_generator(node)}
PROPERTIES = {node.name for kind in CLASSES.values() for node in kind.body if isinstance(node, ast.FunctionDef)
              and any(isinstance(part, ast.Name) and part.id == "property" for part in node.decorator_list)}


def is_setter(function):
    return any(isinstance(part, ast.Attribute) and part.attr == "setter" for part in function.decorator_list)


def callable_objects(tree):
    """The names that are assigned an object of a class with __call__."""
    kinds = {name for name, kind in CLASSES.items()
             if any(isinstance(node, ast.FunctionDef) and node.name == "__call__" for node in kind.body)}
    return {node.targets[0].id for node in ast.walk(tree)
            if isinstance(node, ast.Assign) and called_name(node.value) in kinds}


class Language(unittest.TestCase):
    def each(self):
        for name, tree in TREES.items():
            with self.subTest(name):
                yield name, tree

    def test_files(self):
        held = [name for name in os.listdir(TOP) if name != "__pycache__"]
        self.assertEqual(sorted(held), FILES)
        for name, _ in self.each():
            text = TEXTS[name]
            self.assertTrue(all(sign == "\n" or " " <= sign <= "~" for sign in text))
            self.assertLessEqual(len(text.splitlines()), 399)
            self.assertLessEqual(max(map(len, text.splitlines())), 120)
            self.assertNotRegex(text, r"\(type\)|Meta|metaclass=|_wall|_WallAttr")

    def test_functions_are_small(self):
        for _, tree in self.each():
            for function in functions(tree):
                self.assertLessEqual(function.end_lineno - function.lineno + 1, 40, function.name)

    def test_strings_and_words(self):
        for name, tree in self.each():
            documents = {node.body[0].value.lineno for node in ast.walk(tree)
                         if isinstance(node, (ast.Module, ast.FunctionDef, ast.ClassDef)) and ast.get_docstring(node)}
            for token in tokenize.generate_tokens(io.StringIO(TEXTS[name]).readline):
                if token.type == tokenize.STRING:
                    self.assertNotIn("%", token.string)
                    self.assertNotRegex(re.sub(r"\\[nt\\'\"]", "", token.string), r"\\")
                if token.type in (tokenize.STRING, tokenize.NAME) and token.start[0] not in documents:
                    self.assertNotRegex(token.string, WORDS_NOT_USED)

    def test_module_level(self):
        for _, tree in self.each():
            body = tree.body
            self.assertIsNotNone(ast.get_docstring(tree))
            last_import = max([at for at, node in enumerate(body) if isinstance(node, ast.ImportFrom)], default=0)
            for at, node in enumerate(body[1:], 1):
                if isinstance(node, ast.Assign):
                    self.assertEqual(len(node.targets), 1)
                    ast.literal_eval(node.value)
                else:
                    self.assertIsInstance(node, (ast.ImportFrom, ast.FunctionDef, ast.ClassDef))
                self.assertTrue(isinstance(node, ast.ImportFrom) or at > last_import)
            names = sorted(list(defined(tree)) + list(imported_names(tree)))
            self.assertEqual(names, sorted(set(names)))

    def test_imports(self):
        leads = {}
        for name, tree in self.each():
            for node in imports(tree):
                self.assertEqual(node.level, 0)
                self.assertTrue(all(alias.asname is None for alias in node.names))
                told = {alias.name for alias in node.names}
                if node.module in LIBRARY:
                    self.assertLessEqual(told, LIBRARY[node.module])
                    continue
                self.assertTrue(node.module.startswith("minusless."))
                file = node.module.removeprefix("minusless.") + ".py"
                self.assertLessEqual(told, defined(TREES[file]))
                leads.setdefault(name, set()).add(file)
            used = {node.id for node in ast.walk(tree) if isinstance(node, ast.Name)}
            self.assertLessEqual(imported_names(tree), used)
        waiting = dict(leads)
        done = set(FILES) - set(waiting)
        while waiting:
            free = [name for name, others in waiting.items() if others <= done]
            self.assertTrue(free, "files import from each other")
            done.update(free)
            waiting = {name: others for name, others in waiting.items() if name not in free}

    def test_statements(self):
        for _, tree in self.each():
            for node in ast.walk(tree):
                self.assertNotIsInstance(node, NOT_USED)
                if isinstance(node, ast.Constant):
                    self.assertNotIsInstance(node.value, (float, complex, bytes))
                if isinstance(node, ast.Compare):
                    for sign, other in zip(node.ops, node.comparators):
                        if isinstance(sign, (ast.Is, ast.IsNot)):
                            self.assertIsInstance(other, ast.Constant)
                            self.assertIn(other.value, (None, True, False))
                if isinstance(node, ast.AugAssign):
                    self.assertIsInstance(node.op, ast.Add)
                    self.assertIsInstance(node.target, ast.Name)
                    self.assertIsInstance(node.value, ast.Constant)
                if isinstance(node, ast.Try):
                    self.assertFalse(node.finalbody)
                    self.assertTrue(all(handler.type.id in CLASSES for handler in node.handlers))
                if isinstance(node, ast.Raise):
                    self.assertIn(called_name(node.exc), CLASSES)
                    self.assertTrue(node.cause is None or isinstance(node.cause, ast.Name))
                if isinstance(node, ast.With):
                    self.assertTrue(all(called_name(part.context_expr) in CLASSES for part in node.items))
                if isinstance(node, ast.Starred):
                    self.assertIsInstance(node.value, (ast.Name, ast.Attribute))

    def test_names(self):
        for _, tree in self.each():
            barred = set(dir(builtins)) | imported_names(tree) | {
                node.name for node in tree.body if isinstance(node, ast.ClassDef)}
            for function in functions(tree):
                called = {node.func.id for node in ast.walk(function)
                          if isinstance(node, ast.Call) and isinstance(node.func, ast.Name)}
                for name in stored_names(function):
                    self.assertNotIn(name, barred | NAMES_NOT_USED, function.name)
                    self.assertNotIn(name, GENERATORS & called, function.name)
                    self.assertFalse(name.startswith("__"))
                if not function.name.startswith("__"):
                    self.assertNotIn(function.name, set(dir(builtins)) | NAMES_NOT_USED)
                else:
                    self.assertIn(function.name, DUNDERS)
            self.assertFalse(set(dir(builtins)) & defined(tree))
            for node in ast.walk(tree):
                if isinstance(node, ast.Name) and node.id == "_":
                    self.assertIsInstance(node.ctx, ast.Store)

    def test_functions_of_one_name(self):
        names = [node.name for tree in TREES.values() for node in functions(tree) if not is_setter(node)]
        for name in GENERATORS:
            self.assertEqual(names.count(name), 1, name)
            self.assertNotIn(name, BUILTIN_METHODS)
        self.assertFalse(PROPERTIES & ATTRIBUTES)
        for name in PROPERTIES | CLASS_VALUES:
            self.assertLessEqual(names.count(name), 1, name)
        self.assertFalse(METHODS & ATTRIBUTES)

    def test_parameters(self):
        for _, tree in self.each():
            for function in functions(tree):
                if is_setter(function):
                    self.assertEqual([part.value.id for part in function.decorator_list], [function.name])
                    self.assertIn(function.name, PROPERTIES)
                else:
                    self.assertLessEqual({getattr(part, "id", None) for part in function.decorator_list},
                                         {"property", "classmethod", "staticmethod"})
                for value in function.args.defaults + function.args.kw_defaults:
                    if value is not None:
                        self.assertIsInstance(ast.literal_eval(value), (int, str, tuple, type(None)))
                self.assertFalse(any(isinstance(node, ast.FunctionDef) for node in ast.walk(function)
                                     if node is not function))

    def test_calls(self):
        for _, tree in self.each():
            known = defined(tree) | imported_names(tree) | CALLED_BUILTINS | callable_objects(tree) | {"cls"}
            for node in ast.walk(tree):
                if not isinstance(node, ast.Call):
                    continue
                name = called_name(node)
                if isinstance(node.func, ast.Name):
                    self.assertIn(name, known)
                else:
                    self.assertIn(name, METHODS | BUILTIN_METHODS)
                if name in CALLED_BUILTINS | (BUILTIN_METHODS - METHODS):
                    self.assertLessEqual({keyword.arg for keyword in node.keywords}, {"key", "reverse", "default"})
                if name == "reversed":
                    self.assertIn(called_name(node.args[0]), ("range", "list", "tuple", "sorted"))
                if name in ("any", "all", "sum", "min", "max", "sorted"):
                    self.assertNotIn(called_name(node.args[0]), GENERATORS)
                if name == "join":
                    self.assertIsInstance(node.func.value, ast.Constant)

    def test_iterated_at_once(self):
        for _, tree in self.each():
            above = parents(tree)
            for node in ast.walk(tree):
                name = called_name(node)
                if name in AT_ONCE | GENERATORS and not (name in METHODS and name not in GENERATORS):
                    parent = above[node]
                    loop = isinstance(parent, (ast.For, ast.comprehension)) and parent.iter is node
                    taken = called_name(parent) in TAKERS | ({"reversed"} if name == "range" else set())
                    self.assertTrue(loop or taken or isinstance(parent, ast.YieldFrom), (name, node.lineno))
                if name in GENERATORS:
                    for part in node.args:
                        plain = isinstance(part, (ast.Name, ast.Attribute, ast.Constant))
                        measured = called_name(part) == "len"
                        empty = isinstance(part, ast.Tuple) and not part.elts
                        self.assertTrue(plain or measured or empty, (name, node.lineno))

    def test_attributes(self):
        for _, tree in self.each():
            for node in ast.walk(tree):
                if isinstance(node, ast.Attribute) and isinstance(node.ctx, ast.Load):
                    self.assertIn(node.attr, ATTRIBUTES | METHODS | CLASS_VALUES | BUILTIN_METHODS | {"setter"})
                    self.assertNotIn(node.attr, NAMES_NOT_USED)

    def test_classes_are_not_passed_on(self):
        for _, tree in self.each():
            above = parents(tree)
            for node in ast.walk(tree):
                if isinstance(node, ast.Name) and node.id in CLASSES:
                    parent = above[node]
                    self.assertTrue(
                        isinstance(parent, (ast.ClassDef, ast.ExceptHandler, ast.Attribute))
                        or (isinstance(parent, ast.Call) and parent.func is node)
                        or (called_name(parent) == "isinstance" and parent.args[1] is node), node.lineno)

    def test_double_underscore_methods(self):
        for kind in CLASSES.values():
            held = {node.name: node for node in kind.body if isinstance(node, ast.FunctionDef)}
            if "__getitem__" in held:
                self.assertIn("__iter__", held)
            for name in ("__len__", "__iter__"):
                if name in held:
                    self.assertEqual(len(held[name].body), 1)
                    self.assertIn(called_name(held[name].body[0].value), ("len", "iter"))
            self.assertEqual("__enter__" in held, "__exit__" in held)
            if "__exit__" in held:
                # Only a method of its own is called, which does nothing but assign what was kept.
                (call,) = held["__exit__"].body
                shut = held[called_name(call.value)]
                for row in shut.body:
                    self.assertIsInstance(row, ast.Assign)
                    self.assertIsInstance(row.value, (ast.Attribute, ast.Constant))
            if "__init__" in held:
                self.assertFalse(any(isinstance(node, ast.Return) for node in ast.walk(held["__init__"])))


if __name__ == "__main__":
    unittest.main()
