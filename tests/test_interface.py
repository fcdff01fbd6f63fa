"""The interface of the document: names, arguments and where each is defined; and the rules of [2] for all of it."""

import importlib
import inspect
import unittest

from soleinstances.books import Book
from soleinstances.packages import Package
from soleinstances.programs import Program
from tests.helping import base, lists

# For each module its functions, and its classes with their methods, properties and signs.
MODULES = {
    "names": ["is_name(value)", "is_constructor(value)"],
    "terms": [],
    "uniting": ["common(one, other)", "is_at_most(one, other)", "fits(one, other)"],
    "heads": [],
    "instances": [],
    "packages": [],
    "books": ["all_books()"],
    "looks": ["may_tell(book, package, number)", "met_by(book, package, number)", "is_let(book, package)",
              "look_at(book, package)"],
    "views": [],
    "programs": [],
    "faults": ["closed_terms(package, deep)", "questions(package, deep)", "open_questions(package, deep)",
               "is_fault(program, value)", "faults(program, deep)"],
    "least": ["least_program(book, places=3)"],
    "tables": ["shapes(book, places)", "apart_at(one, other)", "reason_of(book)", "sound_paper(book, places=3)",
               "is_sound_paper(book, places, value)", "judge(book, places=3)"],
    "later": ["open_place(book, instance)", "meeting(program, name, number)", "lasts(program)", "meetings(program)",
              "new_names(taken, many, *, upper=False)"],
    "additions": ["addition(program, name, instance)", "safe_additions(program, name, instances)"],
    "changes": ["is_good(book, changes, places=3)", "least_changes(book, places=3)", "sound_books(places=3)",
                "floor(book, changes, places=3)"],
    "sessions": [],
    "notes": ["write_program(program)", "read_program(book, text)", "write_answer(answer)", "read_answer(text)"],
    "console": [],
}
CLASSES = {
    "terms.Term": ["(top, *parts)", "parts()", "variables()", "constructors()", "put(terms)", "read(text)"],
    "heads.Head": ["(task, *places)", "places()", "variables()", "constructors()", "put(terms)", "read(text)",
                   "is_alike(other)"],
    "instances.Instance": ["(head, *wants)", "needs()", "wanted(question)", "read(text)", "is_alike(other)"],
    "packages.Package": ["(name, *uses, constructors=None, tasks=None, instances=())", "uses()", "seen()", "sees(name)",
                         "constructors()", "tasks()", "instances()", "owner_of(name)", "places_of(name)", "all_told()",
                         "check(head)", "with_instance(instance)", "using(package)"],
    "books.Book": ["(*, owner='early', look='apart', choose='sole', wants='behind', early='refused')",
                   "set_part(part, word)", "words()", "twin()", "changed(changes)", "difference(other)", "plain()",
                   "ladder()", "orphans()", "firsts()"],
    "views.View": ["(book, package)", "__call__(question, told=())", "matches(question)", "could(question)",
                   "is_tree(question, value, told=())", "trees(question, told=())"],
    "programs.Program": ["(book, *packages)", "packages()", "names()", "many_instances()", "view(name)", "under(book)",
                         "with_instance(name, instance)", "__call__(name, question, told=())"],
    "sessions.Session": ["(book)", "set_book(book)", "add(package)", "tell(name, instance)", "ask(name, question, told=())",
                         "undo()", "do(*deeds)", "trying(*packages)", "tried(call, *packages)"],
    "console.Console": ["()", "enter(line)"],
}
STATIC = {"terms.Term": ["read"], "heads.Head": ["read"], "instances.Instance": ["read"],
          "books.Book": ["plain", "ladder", "orphans", "firsts"]}
PROPERTIES = {
    "terms.Term": ["top", "is_variable", "is_closed", "depth"],
    "heads.Head": ["is_closed", "depth", "size"],
    "instances.Instance": ["head"],
    "views.View": ["book"],
    "programs.Program": ["book"],
    "books.Book": ["owner", "look", "choose", "wants", "early"],
    "tables.Verdict": ["is_sound", "paper", "program", "fault"],
    "additions.Addition": ["word", "program", "user", "cause", "instance"],
    "sessions.Session": ["program", "book"],
    "console.Console": ["session"],
}
SIGNS = {
    "terms.Term": "getitem len str contains eq bool and rand le lt ge gt",
    "heads.Head": "getitem len str eq and rand le lt ge gt",
    "instances.Instance": "str eq",
    "packages.Package": "getitem len contains eq",
    "books.Book": "getitem setitem eq",
    "programs.Program": "getitem len contains eq call or ror",
    "tables.Verdict": "bool",
    "additions.Addition": "bool",
    "sessions.Session": "iadd len",
}


def found_in(path):
    """The module or the class with this path."""
    module, _, name = path.partition(".")
    found = importlib.import_module(f"soleinstances.{module}")
    return getattr(found, name) if name else found


def signature_of(call, skipped=0):
    """The text of the arguments of a function, without the first ones."""
    found = inspect.signature(call)
    kept = list(found.parameters.values())[skipped:]
    return str(found.replace(parameters=kept))


class InterfaceTest(unittest.TestCase):

    def test_functions(self):
        for module, rows in MODULES.items():
            for row in rows:
                name, _, arguments = row.partition("(")
                call = getattr(found_in(module), name)
                self.assertEqual(signature_of(call), "(" + arguments, row)
                self.assertEqual(call.__module__, f"soleinstances.{module}", row)

    def test_classes_and_methods(self):
        for path, rows in CLASSES.items():
            found = found_in(path)
            self.assertEqual(found.__module__, "soleinstances." + path.partition(".")[0])
            self.assertEqual(found.__bases__, (object,))
            for row in rows:
                name, _, arguments = row.partition("(")
                method = vars(found)[name or "__init__"]
                if isinstance(method, staticmethod):
                    self.assertEqual(signature_of(method.__func__), "(" + arguments, (path, row))
                else:
                    self.assertEqual(signature_of(method, 1), "(" + arguments, (path, row))

    def test_static_methods(self):
        for path in CLASSES:
            names = [name for name, value in vars(found_in(path)).items() if isinstance(value, staticmethod)]
            self.assertEqual(sorted(names), sorted(STATIC.get(path, [])), path)

    def test_properties(self):
        for path, names in PROPERTIES.items():
            for name in names:
                self.assertIsInstance(vars(found_in(path))[name], property, (path, name))
        for path, names in [("books.Book", PROPERTIES["books.Book"]), ("sessions.Session", ["book"])]:
            for name in names:
                self.assertIsNotNone(vars(found_in(path))[name].fset, (path, name))

    def test_signs(self):
        for path, names in SIGNS.items():
            for name in names.split():
                self.assertIn(f"__{name}__", vars(found_in(path)), path)

    def test_no_argument_is_by_position_only(self):
        for module in MODULES:
            for name, value in vars(found_in(module)).items():
                if inspect.isfunction(value) and not name.startswith("_"):
                    for part in inspect.signature(value).parameters.values():
                        self.assertNotEqual(part.kind, part.POSITIONAL_ONLY, (module, name))

    def test_switches(self):
        self.assertEqual(found_in("books").SWITCHES, {
            "owner": ("early", "first", "any", "anybody"), "look": ("apart", "ladder", "same", "nothing"),
            "choose": ("sole", "special", "first"), "wants": ("behind", "ahead"), "early": ("refused", "wait", "once")})

    def test_generators(self):
        program = Program(Book(), lists())
        view = program.view("lists")
        for found in [lists().all_told(), found_in("books").all_books(), view.matches("show(Int)"), view.could("show(Int)"),
                      view.trees("show(Int)"), found_in("faults").faults(program, 1), found_in("later").meetings(program),
                      found_in("changes").sound_books()]:
            self.assertTrue(inspect.isgenerator(found))

    def test_attributes_that_are_set_when_an_object_is_made(self):
        program = Program(Book(), lists())
        added = found_in("additions").addition(program, "base", "show(Int)")
        for made, name, value in [(found_in("heads").Head("show", "x"), "task", "show"), (base(), "name", "base"),
                                  (program.view("base"), "package", base()), (added, "name", "base")]:
            self.assertEqual(vars(made)[name], value)


class RulesTest(unittest.TestCase):
    """[2], where it is told of more than one module."""

    def test_equal_only_to_objects_of_the_same_class(self):
        made = [found_in("terms").Term("x"), found_in("heads").Head("show", "x"), found_in("instances").Instance("show(x)"),
                base(), Book(), Program(Book())]
        for at, one in enumerate(made):
            for index, other in enumerate(made):
                self.assertIs(one == other, at == index)
            for other in [None, str(one), "x", "show(x)", 0, (), []]:
                self.assertIs(one == other, False)
                self.assertIs(one != other, True)

    def test_lists_that_are_handed_in_are_not_kept(self):
        told, kinds, tasks = ["show(Int)"], {"Int": 0}, {"show": 1}
        package = Package("base", constructors=kinds, tasks=tasks, instances=told)
        view = Program(Book(), package).view("base")
        wants = ["show(x)"]
        answer = view("show(x)", wants)
        for value in [told, kinds, tasks, wants]:
            value.clear()
        self.assertEqual((package, answer), (base(), ("", 0, ())))

    def test_true_and_false_are_no_integers(self):
        program = Program(Book(), base())
        for value in [True, False]:
            for call, args in [("least.least_program", (Book(), value)), ("tables.judge", (Book(), value)),
                               ("changes.least_changes", (Book(), value)), ("faults.closed_terms", (base(), value)),
                               ("later.meeting", (program, "base", value)), ("looks.met_by", (Book(), base(), value))]:
                with self.assertRaises(found_in("errors").SoleError, msg=call):
                    found_in(call)(*args)


if __name__ == "__main__":
    unittest.main()
