"""The rules of LANGUAGE.md, as far as a look at the code of the package can tell."""

import ast
import builtins
import pathlib
import re
import unittest

PACKAGE = pathlib.Path(__file__).resolve().parent.parent / "soleinstances"
FILES = sorted(PACKAGE.rglob("*.py"))

LIBRARY = {
    "heapq": "heappush heappop heapify heapreplace heappushpop",
    "math": "gcd lcm isqrt comb perm factorial",
    "itertools": "product combinations permutations chain accumulate pairwise islice zip_longest",
    "collections": "defaultdict",
    "__future__": "annotations",
}
BUILTINS = """len range enumerate zip min max sum abs sorted reversed int str bool bytes list tuple dict set frozenset
    isinstance ord repr any all divmod pow getattr hasattr setattr iter next map Exception ValueError TypeError KeyError
    IndexError LookupError ZeroDivisionError ArithmeticError OverflowError RuntimeError NotImplementedError
    AttributeError StopIteration NotImplemented property staticmethod classmethod super""".split()
METHODS = """append clear copy count endswith extend find get index insert isalnum isalpha isdigit islower isspace
    isupper items join keys ljust lower lstrip partition pop remove replace reverse rfind rjust rpartition rsplit rstrip
    setdefault split splitlines startswith strip update upper values zfill bit_length title capitalize swapcase casefold
    center expandtabs removeprefix removesuffix rindex isascii isdecimal isnumeric istitle isidentifier isprintable
    translate encode decode hex format sort add discard""".split()
DOUBLE = """init eq repr str len enter exit call iter lt le gt ge ne neg pos invert abs bool contains getitem setitem
    add sub mul floordiv mod pow and or xor lshift rshift radd rsub rmul rfloordiv rmod rand ror rxor rlshift rrshift
    iadd isub imul ifloordiv imod ipow iand ior ixor ilshift irshift""".split()
BARRED = """register mro elements open input law version_info with_traceback add_note""".split()
BARRED_NAMES = """attrgetter breakpoint builtins compile copyright credits delattr dir eval exec exit gc globals help id
    importlib license locals methodcaller os quit type vars sys""".split()
BARRED_WORDS = """typing typing_extensions enum Enum IntEnum StrEnum Flag IntFlag Generic Protocol ABC ABCMeta namedtuple
    NamedTuple TypedDict TYPE_CHECKING abstractmethod""".split()
INTERFACE = """errors names terms uniting heads instances packages books looks views programs faults least tables later
    additions changes sessions notes console""".split()
STATEMENTS = (ast.Import, ast.Global, ast.AsyncFunctionDef, ast.AsyncFor, ast.AsyncWith, ast.Await, ast.TryStar)


def tree_of(file):
    return ast.parse(file.read_text(encoding="utf-8"))


def walk_all(kind):
    """All nodes of a kind in the package, each with the name of its file."""
    return [(file.name, node) for file in FILES for node in ast.walk(tree_of(file)) if isinstance(node, kind)]


def functions():
    return walk_all(ast.FunctionDef)


def module_of(file):
    parts = file.relative_to(PACKAGE.parent).with_suffix("").parts
    return ".".join(parts[:-1] if parts[-1] == "__init__" else parts)


def defined_in(tree):
    """The names that a file binds at module level by itself."""
    found = [node.name for node in tree.body if isinstance(node, (ast.FunctionDef, ast.ClassDef))]
    for node in tree.body:
        if isinstance(node, ast.Assign):
            found.extend([target.id for target in node.targets])
    return found


def imports_of(tree):
    return [node for node in ast.walk(tree) if isinstance(node, ast.ImportFrom)]


def bound_names():
    """The names of all variables, parameters, functions and classes, each with the name of its file."""
    found = [(file, node.id) for file, node in walk_all(ast.Name) if not isinstance(node.ctx, ast.Load)]
    found.extend([(file, node.arg) for file, node in walk_all(ast.arg)])
    found.extend([(file, node.name) for file, node in walk_all(ast.ClassDef)])
    for file in FILES:
        methods = [node for owner in ast.walk(tree_of(file)) if isinstance(owner, ast.ClassDef) for node in owner.body]
        lines = [node.lineno for node in methods]
        plain = [node for node in ast.walk(tree_of(file)) if isinstance(node, ast.FunctionDef)]
        found.extend([(file.name, node.name) for node in plain if node.lineno not in lines])
    return found


class FilesTest(unittest.TestCase):

    def test_l1_l14_names_of_files(self):
        self.assertTrue(FILES)
        self.assertLessEqual(len(FILES), 100)
        for path in PACKAGE.rglob("*"):
            if "__pycache__" in path.parts:
                continue
            if path.is_dir():
                self.assertTrue((path / "__init__.py").exists(), path)
            else:
                self.assertRegex(path.name, r"\A([a-z][a-z0-9_]*|__init__|__main__)\.py\Z")
                self.assertFalse(path.with_suffix("").is_dir(), path)
            self.assertNotRegex(path.stem, r"\A(law_.*|test|tests|testing|test_.*|site|conftest)\Z")
            self.assertNotIn(path.stem, dir(builtins))
            self.assertNotIn(path.stem, BARRED + BARRED_NAMES + BARRED_WORDS + list(LIBRARY))

    def test_l10_sizes(self):
        for file in FILES:
            lines = file.read_text(encoding="utf-8").split("\n")
            self.assertLessEqual(len(lines), 399, file)
            self.assertLessEqual(max([len(line) for line in lines]), 120, file)
        for file, node in functions():
            self.assertLessEqual(node.end_lineno - node.lineno + 1, 40, (file, node.name))

    def test_l10_l14_characters(self):
        for file in FILES:
            self.assertEqual(re.sub(rb"[ -~\n]", b"", file.read_bytes()), b"", file)

    def test_l3_module_level(self):
        kinds = (ast.ImportFrom, ast.FunctionDef, ast.ClassDef, ast.Assign)
        for file in FILES:
            body = tree_of(file).body
            self.assertTrue(ast.get_docstring(tree_of(file)), file)
            for node in body[1:]:
                self.assertIsInstance(node, kinds, (file, node.lineno))
                if isinstance(node, ast.Assign):
                    self.assertEqual([type(target) for target in node.targets], [ast.Name])


class ImportsTest(unittest.TestCase):

    def test_l2_l16_forms(self):
        modules = {module_of(file): defined_in(tree_of(file)) for file in FILES}
        for file in FILES:
            for node in imports_of(tree_of(file)):
                self.assertEqual(node.level, 0, file)
                for alias in node.names:
                    known = modules.get(node.module, LIBRARY.get(node.module, "").split())
                    self.assertIn(alias.name, known, (file, node.module))

    def test_l2_imports_stand_at_the_top(self):
        for file in FILES:
            tree = tree_of(file)
            at_top = [at for at, node in enumerate(tree.body) if isinstance(node, ast.ImportFrom)]
            self.assertEqual(at_top, list(range(1, 1 + len(at_top))), file)
            self.assertEqual(len(imports_of(tree)), len(at_top), file)

    def test_l16_no_circles(self):
        uses = {module_of(file): [node.module for node in imports_of(tree_of(file))] for file in FILES}
        waiting = {module: [use for use in used if use in uses] for module, used in uses.items()}
        while waiting:
            free = [module for module, used in waiting.items() if not [use for use in used if use in waiting]]
            self.assertTrue(free, waiting)
            waiting = {module: used for module, used in waiting.items() if module not in free}

    def test_l15_one_binding(self):
        for file in FILES:
            names = defined_in(tree_of(file))
            for node in imports_of(tree_of(file)):
                names.extend([alias.asname or alias.name for alias in node.names])
            self.assertEqual(sorted(names), sorted(set(names)), file)

    def test_l15_no_other_meaning_for_imports_and_classes(self):
        for file in FILES:
            tree = tree_of(file)
            fixed = [alias.name for node in imports_of(tree) for alias in node.names]
            fixed.extend([node.name for node in tree.body if isinstance(node, ast.ClassDef)])
            for node in ast.walk(tree):
                name = node.arg if isinstance(node, ast.arg) else getattr(node, "id", None)
                stored = isinstance(node, ast.arg) or isinstance(getattr(node, "ctx", None), ast.Store)
                self.assertFalse(stored and name in fixed, (file, name))


class CodeTest(unittest.TestCase):

    def test_l4_l5_decorators(self):
        for file, node in functions():
            found = [ast.unparse(decorator) for decorator in node.decorator_list]
            setter = f"{node.name}.setter"
            self.assertIn(found, [[], ["property"], ["staticmethod"], ["classmethod"], [setter]], (file, node.name))
        for file, node in walk_all(ast.ClassDef):
            self.assertEqual(node.decorator_list + node.keywords, [], (file, node.name))

    def test_l5_double_underscores(self):
        allowed = [f"__{name}__" for name in DOUBLE]
        for file, node in functions():
            if node.name.startswith("__"):
                self.assertIn(node.name, allowed, file)
        for file, node in walk_all(ast.ClassDef):
            methods = [part.name for part in node.body if isinstance(part, ast.FunctionDef)]
            if "__getitem__" in methods:
                self.assertIn("__iter__", methods, (file, node.name))

    def test_l6_statements(self):
        self.assertEqual(walk_all(STATEMENTS), [])
        for file, node in walk_all(ast.ExceptHandler):
            self.assertIsNotNone(node.type, file)

    def test_l7_numbers_and_signs(self):
        self.assertEqual(walk_all((ast.Div, ast.MatMult)), [])
        for file, node in walk_all(ast.Constant):
            self.assertIn(type(node.value), [int, str, bytes, bool, type(None)], (file, node.lineno))

    def test_l8_builtins(self):
        for file in FILES:
            allowed = BUILTINS + (["print"] if file.name == "__main__.py" else [])
            for node in ast.walk(tree_of(file)):
                if isinstance(node, ast.Name) and node.id in dir(builtins):
                    self.assertIn(node.id, allowed, (file, node.lineno))

    def test_l12_l15_l17_names(self):
        for file, name in bound_names():
            self.assertNotIn(name, dir(builtins), file)
            self.assertNotIn(name, BARRED + BARRED_NAMES, file)
            self.assertRegex(name, r"\A(_|_?[A-Za-z][A-Za-z0-9_]*)\Z", file)
        for file, node in walk_all(ast.Attribute):
            self.assertNotIn(node.attr, BARRED, file)
        for file, node in functions():
            self.assertNotIn(node.name, BARRED + BARRED_NAMES, file)

    def test_l17_words(self):
        for file, node in walk_all((ast.Name, ast.Attribute, ast.arg, ast.keyword, ast.alias)):
            for name in [getattr(node, part, None) for part in ["id", "attr", "arg", "name"]]:
                self.assertNotIn(name, [*BARRED_WORDS, "type"], file)
        for file in FILES:
            text = file.read_text(encoding="utf-8")
            self.assertNotRegex(text, r"dataclass|overload|contextmanager|_wall|\(type\)|Meta|metaclass=", file)
            self.assertNotRegex(text, r"\b(" + "|".join(BARRED_WORDS) + r")\b", file)

    def test_l20_is(self):
        for file, node in walk_all(ast.Compare):
            for sign, right in zip(node.ops, node.comparators):
                if isinstance(sign, (ast.Is, ast.IsNot)):
                    fine = isinstance(right, ast.Constant) and right.value in (None, True, False)
                    self.assertTrue(fine or isinstance(right, ast.Name), (file, node.lineno))

    def test_l25_methods(self):
        own = [node.name for _, node in functions()]
        for file, node in walk_all(ast.Call):
            if isinstance(node.func, ast.Attribute):
                self.assertIn(node.func.attr, METHODS + own, (file, node.lineno))

    def test_l26_attributes(self):
        barred = """items keys values pop update append clear extend insert remove reverse setdefault sort args encode
            decode hex fromhex format""".split()
        for file, node in walk_all(ast.Attribute):
            if isinstance(node.ctx, ast.Store):
                self.assertNotIn(node.attr, barred, (file, node.lineno))

    def test_l27_strings(self):
        for file, node in walk_all(ast.Constant):
            if isinstance(node.value, str):
                self.assertNotIn(chr(37), node.value, (file, node.lineno))
                self.assertFalse(node.value.endswith(("._", ".__")), (file, node.lineno))

    def test_l28_len_and_str(self):
        for file, node in functions():
            if node.name in ("__len__", "__str__", "__repr__"):
                self.assertIsInstance(node.body[-1], ast.Return, (file, node.name))
            if node.name == "__len__":
                for part in ast.walk(node):
                    if isinstance(part, ast.Return):
                        self.assertRegex(ast.unparse(part), r"\Areturn (len\(|[0-9]+\Z)", file)


def parents_of(tree):
    """The dict from the nodes of a tree to those that hold them."""
    return {child: node for node in ast.walk(tree) for child in ast.iter_child_nodes(node)}


def with_parents(kind):
    """All nodes of a kind in the package, each with what holds it, and the name of its file."""
    found = []
    for file in FILES:
        tree = tree_of(file)
        parents = parents_of(tree)
        found.extend([(file.name, node, parents[node]) for node in ast.walk(tree) if isinstance(node, kind)])
    return found


def name_of(node):
    """The name by which something is called, or None."""
    return getattr(node, "id", getattr(node, "attr", None))


def classes():
    return walk_all(ast.ClassDef)


def methods_of(node):
    return [part for part in node.body if isinstance(part, ast.FunctionDef)]


class ClassesTest(unittest.TestCase):

    def test_l5_statements_of_classes(self):
        for file, node in classes():
            self.assertTrue(ast.get_docstring(node), (file, node.name))
            for part in node.body[1:]:
                self.assertIsInstance(part, ast.FunctionDef, (file, node.name))

    def test_l5_forms_of_iter(self):
        for file, node in classes():
            for part in methods_of(node):
                if part.name == "__iter__":
                    self.assertEqual(len(part.body), 1, file)
                    self.assertRegex(ast.unparse(part.body[0]), r"\Araise TypeError\('[^']*'\)\Z", file)

    def test_l5_operators_are_used_by_their_signs(self):
        for file, node in walk_all(ast.Attribute):
            fine = not node.attr.startswith("__") or node.attr in ("__init__", "__class__", "__name__")
            self.assertTrue(fine, (file, node.lineno))

    def test_l18_no_name_is_a_method_and_an_attribute(self):
        methods = [part.name for _, node in classes() for part in methods_of(node)]
        for file, node in walk_all(ast.Attribute):
            if isinstance(node.ctx, ast.Store):
                self.assertNotIn(node.attr, methods, (file, node.lineno))

    def test_l18_attributes_that_are_read_are_assigned(self):
        stored = [node.attr for _, node in walk_all(ast.Attribute) if isinstance(node.ctx, ast.Store)]
        own = [node.name for _, node in functions()]
        for file, node, parent in with_parents(ast.Attribute):
            if not (isinstance(parent, ast.Call) and parent.func is node) and node.attr != "setter":
                self.assertIn(node.attr, stored + own, (file, node.lineno))

    def test_l18_no_method_twice(self):
        for file, node in classes():
            plain = [part.name for part in methods_of(node) if "setter" not in ast.unparse(part).split("\n")[0]]
            self.assertEqual(sorted(plain), sorted(set(plain)), (file, node.name))

    def test_l15_l18_classes_are_not_values(self):
        names = [node.name for _, node in classes()]
        for file, node, parent in with_parents(ast.Name):
            if node.id in names and isinstance(node.ctx, ast.Load):
                kinds = (ast.Call, ast.ClassDef, ast.ExceptHandler, ast.Raise, ast.Tuple, ast.Attribute)
                self.assertIsInstance(parent, kinds, (file, node.lineno))
                if isinstance(parent, ast.Call) and parent.func is not node:
                    self.assertEqual(name_of(parent.func), "isinstance", (file, node.lineno))

    def test_l28_init_returns_nothing(self):
        for file, node in functions():
            if node.name == "__init__":
                self.assertEqual([part for part in ast.walk(node) if isinstance(part, ast.Return)], [], file)


class GeneratorsTest(unittest.TestCase):

    def names(self):
        found = []
        for _, node in functions():
            if [part for part in ast.walk(node) if isinstance(part, (ast.Yield, ast.YieldFrom))]:
                found.append(node.name)
        return found

    def test_l23_names(self):
        found = self.names()
        self.assertTrue(found)
        self.assertEqual(sorted(found), sorted(set(found)))
        everything = [node.name for _, node in functions()]
        for name in found:
            self.assertEqual(everything.count(name), 1)
            self.assertNotIn(name, METHODS)
            self.assertFalse(name.startswith("__"))
        for file, node in walk_all(ast.Name):
            if not isinstance(node.ctx, ast.Load):
                self.assertNotIn(node.id, found, (file, node.lineno))

    def test_l23_iterated_at_once(self):
        found = self.names()
        for file, node, parent in with_parents(ast.Call):
            if name_of(node.func) in found:
                at_once = isinstance(parent, (ast.For, ast.comprehension)) and parent.iter is node
                at_once = at_once or isinstance(parent, ast.YieldFrom)
                at_once = at_once or isinstance(parent, ast.Call) and name_of(parent.func) in ("list", "tuple", "dict")
                self.assertTrue(at_once, (file, node.lineno))
                for argument in node.args:
                    self.assertIsInstance(argument, (ast.Name, ast.Attribute, ast.Constant), (file, node.lineno))

    def test_l23_yields_are_statements(self):
        for file, _, parent in with_parents((ast.Yield, ast.YieldFrom)):
            self.assertIsInstance(parent, ast.Expr, file)

    def test_l7_lists_where_a_class_has_an_equal(self):
        self.assertEqual(walk_all(ast.GeneratorExp), [])

    def test_l23_not_stored(self):
        for file, node, parent in with_parents(ast.Call):
            if name_of(node.func) in ("zip", "enumerate", "reversed", "range", "items", "values"):
                fine = isinstance(parent, (ast.For, ast.comprehension)) and parent.iter is node
                fine = fine or isinstance(parent, ast.Call) and name_of(parent.func) in ("list", "tuple", "dict", "reversed", "sum")
                self.assertTrue(fine, (file, node.lineno))

    def test_l23_what_is_iterated_is_not_changed(self):
        changing = "append extend insert pop remove clear reverse setdefault update".split()
        for file, node in walk_all(ast.For):
            inner = [part for row in node.body for part in ast.walk(row)]
            names = {ast.unparse(part) for part in ast.walk(node.iter) if isinstance(part, (ast.Name, ast.Attribute))}
            for part in inner:
                if isinstance(part, ast.Call) and isinstance(part.func, ast.Attribute) and part.func.attr in changing:
                    self.assertNotIn(ast.unparse(part.func.value), names, (file, part.lineno))
                if isinstance(part, ast.Subscript) and not isinstance(part.ctx, ast.Load):
                    self.assertNotIn(ast.unparse(part.value), names, (file, part.lineno))


class ValuesTest(unittest.TestCase):

    def test_l5_no_sums_in_place(self):
        """Beside `__iadd__` hardly any would be allowed."""
        self.assertEqual(walk_all(ast.AugAssign), [])

    def test_l5_l25_orders(self):
        for file, node in walk_all(ast.Call):
            self.assertNotEqual(name_of(node.func), "sort", (file, node.lineno))
            if isinstance(node.func, ast.Name) and node.func.id in ("sorted", "min", "max"):
                plain = [part for part in node.args if isinstance(part, ast.Constant)]
                plain += [part for part in node.args if isinstance(part, ast.Call) and name_of(part.func) == "len"]
                self.assertTrue(plain, (file, node.lineno))

    def test_l24_sets(self):
        sets = [entry for entry in with_parents((ast.Set, ast.SetComp))]
        sets += [entry for entry in with_parents(ast.Call) if name_of(entry[1].func) in ("set", "frozenset")]
        for file, node, parent in sets:
            fine = isinstance(parent, (ast.Compare, ast.Assign))
            fine = fine or isinstance(parent, ast.Call) and name_of(parent.func) in ("len", "sorted")
            self.assertTrue(fine, (file, node.lineno))

    def test_l19_errors(self):
        own = [node.name for _, node in classes()]
        for file, node in walk_all(ast.ExceptHandler):
            caught = node.type.elts if isinstance(node.type, ast.Tuple) else [node.type]
            for one in caught:
                self.assertIn(name_of(one), [*own, "KeyError", "ZeroDivisionError"], (file, node.lineno))
        for file, node in walk_all(ast.Raise):
            if node.exc is not None:
                self.assertIsInstance(node.exc, ast.Call, (file, node.lineno))
                self.assertIn(name_of(node.exc.func), [*own, "TypeError"], (file, node.lineno))

    def test_l5_names_of_not_implemented(self):
        for file, _, parent in [entry for entry in with_parents(ast.Name) if entry[1].id == "NotImplemented"]:
            self.assertIsInstance(parent, ast.Return, file)

    def test_l15_lists_of_modules_are_only_read(self):
        fixed = [name for file in FILES for name in defined_in(tree_of(file)) if name.isupper()]
        for file, node, parent in with_parents(ast.Name):
            if node.id in fixed and isinstance(parent, ast.Attribute):
                self.assertIn(parent.attr, ["items", "keys", "values", "get", "index", "count"], (file, node.lineno))
            if node.id in fixed and isinstance(parent, ast.Subscript):
                self.assertIsInstance(parent.ctx, ast.Load, (file, node.lineno))

    def test_l7_stars(self):
        for file, node, parent in with_parents(ast.Starred):
            if isinstance(parent, ast.Call):
                self.assertIsInstance(node.value, (ast.Name, ast.Attribute), (file, node.lineno))
        for file, node in walk_all(ast.Call):
            if [part for part in node.keywords if part.arg is None]:
                self.assertEqual((len(node.keywords), node.args), (1, []), (file, node.lineno))

    def test_l7_f_strings(self):
        for file, node in walk_all(ast.FormattedValue):
            self.assertIsNone(node.format_spec, (file, node.lineno))
            self.assertIn(node.conversion, [-1, ord("r"), ord("s")], (file, node.lineno))

    def test_l12_blank_names_are_not_read(self):
        for file, node in walk_all(ast.Name):
            self.assertFalse(node.id == "_" and isinstance(node.ctx, ast.Load), (file, node.lineno))


def is_generator(node):
    return bool([part for part in ast.walk(node) if isinstance(part, (ast.Yield, ast.YieldFrom))])


def decorators_of(node):
    return [ast.unparse(decorator) for decorator in node.decorator_list]


class ReachTest(unittest.TestCase):
    """What operators, properties and the like run: all that they call or read by name, and so on."""

    def setUp(self):
        # A property that is read does not run its setter.
        self.by_name = {}
        for _, node in functions():
            if [name for name in decorators_of(node) if name.endswith(".setter")]:
                continue
            self.by_name.setdefault(node.name, []).append(node)
        for _, node in classes():
            made = [part for part in methods_of(node) if part.name == "__init__"]
            self.by_name.setdefault(node.name, []).extend(made)

    def starts(self):
        """The operators that may change nothing, and the other methods of which this is asked."""
        free = ["__init__", "__call__", "__enter__", "__exit__", "__iter__", "__setitem__"]
        free += [f"__{name}__" for name in DOUBLE if name.startswith("i") and name[1:] in DOUBLE]
        found = []
        for _, node in functions():
            named = node.name.startswith("__") and node.name not in free
            if named or decorators_of(node) == ["property"]:
                found.append(node)
        return found

    def reached(self, start):
        """The list of the functions that one may run, itself among them."""
        found = [start]
        for node in found:
            for part in ast.walk(node):
                if isinstance(part, (ast.Name, ast.Attribute)) and isinstance(part.ctx, ast.Load):
                    found.extend([other for other in self.by_name.get(name_of(part), []) if other not in found])
        return found

    def test_what_is_looked_at(self):
        names = [node.name for node in self.starts()]
        for name in ["__or__", "__ror__", "__eq__", "__len__", "__str__", "__repr__", "__bool__", "__contains__", "__getitem__",
                     "book", "word", "paper", "session", "head", "owner"]:
            self.assertIn(name, names)
        for name in ["__iadd__", "__ior__", "__setitem__", "__init__"]:
            self.assertNotIn(name, names)
        joined = [node for node in self.starts() if node.name == "__or__"][0]
        self.assertIn("look_at", [node.name for node in self.reached(joined)])
        self.assertIn("met_by", [node.name for node in self.reached(joined)])

    def test_l5_l28_no_generator(self):
        for start in self.starts():
            for node in self.reached(start):
                self.assertFalse(is_generator(node), (start.name, node.name))

    def test_l5_nothing_is_called_that_is_held_or_handed_in(self):
        for start in self.starts():
            for node in self.reached(start):
                handed = [part.arg for part in node.args.args]
                for part in ast.walk(node):
                    if isinstance(part, ast.Call) and isinstance(part.func, ast.Name):
                        self.assertNotIn(part.func.id, handed, (start.name, node.name))

    def test_l5_no_attribute_is_changed(self):
        """But those of an object that is being made, or was made by the function itself."""
        made = [node.name for _, node in classes()]
        for start in self.starts():
            for node in [node for node in self.reached(start) if node.name != "__init__"]:
                own = [part.targets[0].id for part in ast.walk(node) if isinstance(part, ast.Assign)
                       and isinstance(part.targets[0], ast.Name) and isinstance(part.value, ast.Call)
                       and name_of(part.value.func) in made]
                for part in ast.walk(node):
                    if isinstance(part, ast.Attribute) and isinstance(part.ctx, ast.Store):
                        self.assertIn(name_of(part.value), own, (start.name, node.name))


class StatementsTest(unittest.TestCase):

    def test_l6_a_call_on_its_own(self):
        for file, node in walk_all(ast.Expr):
            fine = isinstance(node.value, (ast.Call, ast.Yield, ast.YieldFrom))
            fine = fine or isinstance(node.value, ast.Constant) and isinstance(node.value.value, str)
            self.assertTrue(fine, (file, node.lineno))

    def test_l6_with(self):
        found = walk_all(ast.With)
        self.assertTrue(found)
        names = [node.name for _, node in classes() if "__exit__" in [part.name for part in methods_of(node)]]
        for file, node in found:
            for item in node.items:
                self.assertIsInstance(item.context_expr, ast.Call, (file, node.lineno))
                self.assertIn(name_of(item.context_expr.func), names, (file, node.lineno))
                self.assertIsInstance(item.optional_vars, (ast.Name, type(None)))

    def test_l6_exit(self):
        """Its rows take an attribute of self into a name, and set attributes of this name from those of self."""
        for file, node in functions():
            if node.name == "__exit__":
                self.assertEqual([part.arg for part in node.args.args], ["self", "kind", "value", "trace"])
                for row in [row for row in node.body if not isinstance(row, ast.Expr)]:
                    self.assertRegex(ast.unparse(row), r"\A([a-z]+ = self|[a-z]+\.[a-z]+ = self)\.[a-z_]+\Z", file)

    def test_l19_errors_that_are_caught(self):
        """Their attributes are read, or they are the reason of another error."""
        own = [node.name for _, node in classes()]
        for file, node in walk_all(ast.ExceptHandler):
            parents = parents_of(node)
            for part in ast.walk(node):
                if isinstance(part, ast.Name) and part.id == node.name:
                    held = parents[part]
                    fine = isinstance(held, ast.Attribute)
                    fine = fine or isinstance(held, ast.Call) and name_of(held.func) in own and isinstance(parents[held], ast.Raise)
                    self.assertTrue(fine, (file, node.lineno))
            if node.name is not None:
                around = [part for _, part in functions() if part.lineno <= node.lineno <= part.end_lineno]
                self.assertNotIn(node.name, [part.arg for call in around for part in call.args.args], file)

    def test_l2_imports_are_used(self):
        for file in FILES:
            tree = tree_of(file)
            read = [node.id for node in ast.walk(tree) if isinstance(node, ast.Name)]
            for node in imports_of(tree):
                for alias in node.names:
                    self.assertIn(alias.asname or alias.name, read, file)

    def test_functions_that_are_no_part_of_the_interface_are_used(self):
        read = [name_of(node) for _, node in walk_all((ast.Name, ast.Attribute))]
        imported = [alias.name for _, node in walk_all(ast.ImportFrom) for alias in node.names]
        for file, node in functions():
            if node.name.startswith("_") and not node.name.startswith("__"):
                self.assertIn(node.name, read, file)
        for file in FILES:
            for name in defined_in(tree_of(file)):
                if file.stem not in INTERFACE:
                    self.assertIn(name, imported + read, file)

    def test_all_have_docstrings(self):
        for file, node in functions():
            if not node.name.startswith("__") and "setter" not in "".join(decorators_of(node)):
                self.assertTrue(ast.get_docstring(node), (file, node.name))


if __name__ == "__main__":
    unittest.main()
