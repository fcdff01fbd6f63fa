"""Programs, promise [16]."""

import inspect
import itertools
import unittest
import unittest.mock

from soleinstances.books import Book, all_books
from soleinstances.errors import (Clash, InvalidBook, InvalidOwned, InvalidProgram, InvalidQuestion, InvalidTold, Meets,
                                  NameTaken, NotOwner, NotSeen, Refused, TooLarge, UnknownName, UnlikeBooks, WrongPlaces)
from soleinstances.heads import Head
from soleinstances.instances import Instance
from soleinstances.packages import Package
from soleinstances.programs import Program
from soleinstances.views import View
from tests.helping import NO_NAMES, Agreeing, base, lists, more, raised
from tests.making import Maker

BASE = ("base", 0, ())
NO_PACKAGES = NO_NAMES + ["base", Head("show", "x"), Book(), Agreeing()]
NO_NAMES_OF_PACKAGES = NO_NAMES + ["", "Base", "show", "Int", "bas", Agreeing()]


def refused(call, *args):
    """What Refused tells: a tuple (package, number, reason class, its attributes)."""
    error, found = raised(call, *args)
    if error is not Refused:
        raise AssertionError((error, found))
    return (found["package"], found["number"], type(found["reason"]), vars(found["reason"]))


class MakingTest(unittest.TestCase):

    def names(self, *packages):
        return Program(Book(), *packages).names()

    def test_no_book(self):
        for value in NO_NAMES + [base(), ("early",), Agreeing()]:
            self.assertEqual(raised(Program, value), (InvalidBook, {"part": None}))
            self.assertEqual(raised(Program, value, 5, more()), (InvalidBook, {"part": None}))

    def test_no_packages(self):
        for value in NO_PACKAGES:
            self.assertEqual(raised(Program, Book(), value), (InvalidProgram, {"number": 0}))
            self.assertEqual(raised(Program, Book(), base(), more(), value, 5), (InvalidProgram, {"number": 2}))

    def test_all_that_is_seen_in_order(self):
        left, right = Package("left", base()), Package("right", lists())
        self.assertEqual(self.names(), [])
        self.assertEqual(self.names(lists()), ["base", "lists"])
        self.assertEqual(self.names(right, left), ["base", "lists", "right", "left"])
        self.assertEqual(self.names(left, right), ["base", "left", "lists", "right"])
        self.assertEqual(self.names(Package("z"), right), ["z", "base", "lists", "right"])

    def test_handed_in_twice_and_against_their_uses(self):
        self.assertEqual(self.names(lists(), base()), ["base", "lists"])
        self.assertEqual(self.names(base(), lists(), base(), lists()), ["base", "lists"])
        one = lists()
        self.assertEqual(self.names(one, one), ["base", "lists"])

    def taken(self, name, *packages):
        self.assertEqual(raised(Program, Book(), *packages), (NameTaken, {"name": name}))

    def test_clashing_names(self):
        self.taken("base", base(), Package("base"))
        self.taken("base", lists(), Package("base"))
        self.taken("base", Package("left", Package("base")), lists())
        self.taken("Int", base(), Package("other", constructors={"Set": 0, "Int": 1}, tasks={"show": 1}))
        self.taken("show", base(), Package("other", constructors={"Set": 0}, tasks={"join": 1, "show": 1}))
        self.taken("List", lists(), Package("top", Package("other", constructors={"List": 1})))
        self.taken("show", base(), Package("other", tasks={"show": 2}), Package("base"))

    def test_eight_packages_and_nine(self):
        nine = [Package(letter) for letter in "abcdefghi"]
        self.assertEqual(self.names(*nine[:8]), list("abcdefgh"))
        self.assertEqual(raised(Program, Book(), *nine), (InvalidProgram, {"number": None}))
        self.assertEqual(self.names(*nine[:8], *nine[:8]), list("abcdefgh"))
        self.taken("a", *nine, Package("a", nine[1]))
        self.assertEqual(raised(Program, Book(), *nine[:6], more()), (InvalidProgram, {"number": None}))
        self.assertEqual(raised(Program, Book(), *nine, 5), (InvalidProgram, {"number": 9}))

    def test_packages_that_are_not_let(self):
        self.assertEqual(refused(Program, Book(), more()), ("more", 0, NotOwner, {"task": "show"}))
        self.assertEqual(refused(Program, Book.orphans(), more()), ("more", 0, Meets, {"package": "lists", "number": 0}))
        self.assertEqual(len(Program(Book(owner="anybody", look="ladder"), more())), 3)

    def test_the_first_one_in_order(self):
        one = Package("one", constructors={"A": 0}, tasks={"s": 1}, instances=["s(x)", "s(A)"])
        two = Package("two", one, instances=["s(A)"])
        other = Package("other", base(), instances=["show(Int)"])
        self.assertEqual(refused(Program, Book(), two, other), ("one", 1, Meets, {"package": "one", "number": 0}))
        self.assertEqual(refused(Program, Book(), other, two), ("other", 0, NotOwner, {"task": "show"}))
        self.assertEqual(refused(Program, Book(choose="first"), two, other), ("two", 0, NotOwner, {"task": "s"}))

    def test_without_packages(self):
        program = Program(Book())
        self.assertEqual((len(program), program.packages(), program.many_instances()), (0, [], 0))
        self.assertEqual(raised(program, "base", "show(Int)"), (UnknownName, {"name": "base"}))


class LookingTest(unittest.TestCase):

    def setUp(self):
        self.program = Program(Book(), lists(), Package("other"))

    def test_packages_and_names(self):
        self.assertEqual(self.program.packages(), [base(), lists(), Package("other")])
        self.assertEqual(self.program.names(), ["base", "lists", "other"])
        self.assertEqual((len(self.program), self.program.many_instances()), (3, 2))
        for name, package in zip(self.program.names(), self.program.packages()):
            self.assertEqual(self.program[name], package)
            self.assertIs(name in self.program, True)

    def test_other_names(self):
        for name in NO_NAMES_OF_PACKAGES + [base(), "more", 0, slice(0, 1)]:
            self.assertEqual(raised(lambda: self.program[name]), (UnknownName, {"name": name}))
            self.assertIs(name in self.program, False)
            self.assertEqual(raised(self.program.view, name), (UnknownName, {"name": name}))
            self.assertEqual(raised(self.program, name, 5, 5), (UnknownName, {"name": name}))
            self.assertEqual(raised(self.program.with_instance, name, 5), (UnknownName, {"name": name}))

    def test_the_book_is_a_copy(self):
        book = Book()
        program = Program(book, lists())
        book.owner = "any"
        self.assertEqual(program.book, Book())
        program.book.owner = "any"
        self.assertEqual(program.book, Book())
        self.assertIsNot(program.book, program.book)
        self.assertEqual(program.view("base").book, Book())
        self.assertEqual(program.under(Book()), program)

    def test_returned_lists_are_new(self):
        self.program.packages().clear()
        self.program.names().append("more")
        self.assertEqual(self.program.names(), ["base", "lists", "other"])
        self.assertEqual(len(self.program.packages()), 3)

    def test_views(self):
        view = self.program.view(name="lists")
        self.assertIs(type(view), View)
        self.assertEqual((view.package, view.book), (lists(), Book()))

    def test_the_program_called(self):
        self.assertEqual(self.program("lists", "show(List(Int))"), ("lists", 0, (BASE,)))
        self.assertIsNone(self.program("lists", Head.read("show(x)")))
        self.assertEqual(self.program("base", "show(x)", ["show(x)"]), ("", 0, ()))
        self.assertEqual(self.program(name="base", question="show(x)", told=("show(x)",)), ("", 0, ()))

    def test_the_program_called_with_wrong_values(self):
        rows = [
            (("no", 5), UnknownName), (("base", 5, 5), InvalidQuestion),
            (("lists", "show(List(List(List(List(Int)))))", 5), TooLarge), (("base", "show(List(x))", 5), NotSeen),
            (("base", "show(Int,Int)"), WrongPlaces), (("base", "show(Int)", 5), InvalidTold),
            (("base", "show(Int)", ["show(Int)"]), InvalidTold),
        ]
        for args, error in rows:
            self.assertIs(raised(self.program, *args)[0], error)
        clash = Program(Book(look="nothing", owner="anybody"), Package("top", base(), instances=["show(x)"]))
        self.assertEqual(raised(clash, "top", "show(Int)"),
                         (Clash, {"question": Head.read("show(Int)"), "found": [("base", 0), ("top", 0)]}))

    def test_a_package_need_not_be_seen_by_the_other_ones(self):
        self.assertEqual(raised(self.program, "other", "show(Int)"), (NotSeen, {"name": "show"}))


class SignsTest(unittest.TestCase):

    def test_a_package_on_the_right(self):
        program = Program(Book(), base())
        found = program | lists()
        self.assertEqual((type(found), found.names()), (Program, ["base", "lists"]))
        self.assertEqual(program.names(), ["base"])
        self.assertEqual((program | base()).names(), ["base"])
        self.assertEqual((Program(Book(), Package("other")) | lists()).names(), ["other", "base", "lists"])

    def test_a_package_on_the_left(self):
        program = Program(Book(), Package("other"), base())
        self.assertEqual((lists() | program).names(), ["base", "lists", "other"])
        self.assertEqual((Package("z") | program).names(), ["z", "other", "base"])
        self.assertEqual((base() | program).names(), ["base", "other"])
        self.assertEqual((base() | program).book, Book())

    def test_a_program_on_the_right(self):
        one, other = Program(Book(), Package("other")), Program(Book(), lists(), Package("z"))
        self.assertEqual((one | other).names(), ["other", "base", "lists", "z"])
        self.assertEqual((other | one).names(), ["base", "lists", "z", "other"])
        self.assertEqual((other | other), other)
        self.assertEqual([one.names(), other.names()], [["other"], ["base", "lists", "z"]])

    def test_in_place(self):
        program = first = Program(Book(), base())
        program |= lists()
        self.assertEqual([program.names(), first.names()], [["base", "lists"], ["base"]])
        program |= Program(Book(), Package("z"))
        self.assertEqual([program.names(), first.names()], [["base", "lists", "z"], ["base"]])
        package = Package("y")
        package |= first
        self.assertEqual((package.names(), type(package)), (["y", "base"], Program))

    def test_unlike_books(self):
        one = Program(Book(), base())
        for book in [Book.ladder(), Book(early="once"), Book.orphans()]:
            other = Program(book, base())
            self.assertEqual(raised(lambda: one | other), (UnlikeBooks, {}))
            self.assertEqual(raised(lambda: one.__ior__(other)), (UnlikeBooks, {}))
            self.assertEqual(raised(lambda: other | Program(Book(), Package("base"))), (UnlikeBooks, {}))
        twin = Book()
        twin.early = "once"
        twin.early = "refused"
        self.assertEqual((one | Program(twin, Package("z"))).names(), ["base", "z"])

    def test_errors_of_the_class(self):
        program = Program(Book(), base())
        eight = Program(Book(), *[Package(letter) for letter in "abcdefgh"])
        for one, other in [(program, Package("base")), (Package("base"), program), (program, Program(Book(), Package("base")))]:
            self.assertEqual(raised(lambda: one | other), (NameTaken, {"name": "base"}))
        for one, other in [(eight, base()), (base(), eight), (eight, program)]:
            self.assertEqual(raised(lambda: one | other), (InvalidProgram, {"number": None}))
        for call in [lambda: program | more(), lambda: more() | program]:
            self.assertEqual(refused(call), ("more", 0, NotOwner, {"task": "show"}))

    def test_values_of_other_kinds(self):
        program = Program(Book(), base())
        for value in [None, 5, "base", [base()], Book()]:
            self.assertRaises(TypeError, lambda: program | value)
            self.assertRaises(TypeError, lambda: value | program)


class NoGeneratorTest(unittest.TestCase):
    """What an operator, or a property, runs takes instances from lists."""

    def run_all(self, program, package):
        found = [program | package, package | program, program | program, program == program, package == package,
                 program != package, "lists" in program, "show(Int)" in package, len(program), len(package), repr(program),
                 repr(package), program["base"], package[0], program.book, program.view("base").book, package[0].head,
                 package[0] == package[0], str(package[0])]
        program |= package
        return [*found, program]

    def test_all_operators_and_properties(self):
        for book in [Book(), Book.ladder(), Book(owner="anybody", choose="first")]:
            program = Program(book, lists(), Package("user", lists(), constructors={"Own": 0}, instances=["show(Own)"]))
            package = Package("z", lists(), constructors={"Set": 1}, instances=["show(Set(x)) if show(x)"])
            expected = self.run_all(program, package)
            with unittest.mock.patch.object(Package, "all_told", side_effect=AssertionError), \
                    unittest.mock.patch.object(View, "matches", side_effect=AssertionError):
                self.assertRaises(AssertionError, package.all_told)
                self.assertEqual(self.run_all(program, package), expected)

    def test_the_generator_stays_one(self):
        found = lists().all_told()
        self.assertTrue(inspect.isgenerator(found))
        self.assertEqual([(*entry[:2], str(entry[2])) for entry in found],
                         [("base", 0, "show(Int)"), ("lists", 0, "show(List(x)) if show(x)")])


class UnderTest(unittest.TestCase):

    def test_another_book(self):
        program = Program(Book(owner="anybody", look="ladder"), more())
        found = program.under(book=Book(owner="anybody", look="nothing"))
        self.assertEqual((found.names(), found.book), (program.names(), Book(owner="anybody", look="nothing")))
        self.assertEqual(program.book, Book(owner="anybody", look="ladder"))

    def test_errors_of_the_class(self):
        program = Program(Book(owner="anybody", look="ladder"), more())
        for value in NO_NAMES + [program]:
            self.assertEqual(raised(program.under, value), (InvalidBook, {"part": None}))
        self.assertEqual(refused(program.under, Book()), ("more", 0, NotOwner, {"task": "show"}))


class WithInstanceTest(unittest.TestCase):

    def test_a_package_that_others_see(self):
        top = Package("top", lists(), Package("left", base()), instances=[])
        program = Program(Book.ladder(), top, Package("other"))
        found = program.with_instance("base", "show(x)")
        self.assertEqual(found.names(), program.names())
        new = base().with_instance("show(x)")
        self.assertEqual(found["base"], new)
        self.assertEqual(found["lists"], lists().using(new))
        self.assertEqual(found["top"].seen()[0], new)
        self.assertEqual(found["other"], Package("other"))
        self.assertEqual([len(package) for package in program.packages()], [1, 1, 0, 0, 0])
        self.assertEqual([len(package) for package in found.packages()], [2, 1, 0, 0, 0])
        self.assertEqual([len(package.seen()[0]) for package in found.packages()[:4]], [2, 2, 2, 2])

    def test_a_package_that_nobody_sees(self):
        program = Program(Book(), lists(), Package("z"))
        grown = program | Package("top", lists(), constructors={"Set": 1})
        found = grown.with_instance(name="top", instance=Instance("show(Set(x))"))
        self.assertEqual(found.names(), grown.names())
        self.assertEqual([str(found["top"][0]), found.many_instances(), grown.many_instances()], ["show(Set(x))", 3, 2])
        self.assertEqual(found.packages()[:3], grown.packages()[:3])

    def test_errors(self):
        program = Program(Book(), lists())
        self.assertEqual(raised(program.with_instance, "base", 5)[0].__name__, "InvalidTold")
        self.assertEqual(raised(program.with_instance, "base", "show(List(x))"), (NotSeen, {"name": "List"}))
        self.assertEqual(raised(program.with_instance, "lists", "show(List)"), (WrongPlaces, {"name": "List"}))
        full = Program(Book(look="nothing"), Package("a", constructors={"A": 0}, tasks={"s": 1}, instances=["s(A)"] * 8))
        self.assertEqual(raised(full.with_instance, "a", "s(x)")[0], InvalidOwned)
        self.assertEqual(refused(program.with_instance, "base", "show(x)"),
                         ("base", 1, Meets, {"package": "base", "number": 0}))
        self.assertEqual(refused(program.with_instance, "lists", "show(Int)"), ("lists", 1, NotOwner, {"task": "show"}))

    def test_a_package_that_is_refused_behind_it(self):
        kinds = Package("kinds", tasks={"show": 1})
        user = Package("user", kinds, constructors={"Own": 0}, instances=["show(Own)"])
        program = Program(Book(), user)
        self.assertEqual(refused(program.with_instance, "kinds", "show(x)"),
                         ("user", 0, Meets, {"package": "kinds", "number": 0}))
        self.assertEqual(program.names(), ["kinds", "user"])

    def test_by_chance(self):
        for number, book in enumerate(list(all_books())[::9]):
            maker = Maker(number, book)
            program = maker.program(4, 3)
            for package in program.packages():
                instance = maker.instance(package)
                try:
                    found = program.with_instance(package.name, instance)
                except Exception:
                    continue
                self.assertEqual(found.names(), program.names())
                self.assertEqual(found.many_instances(), program.many_instances() + 1)
                for one, other in zip(program.packages(), found.packages()):
                    told = [(*entry[:2], str(entry[2])) for entry in other.all_told()]
                    if one.sees(package.name):
                        told.remove((package.name, len(package), instance))
                    self.assertEqual(told, [(*entry[:2], str(entry[2])) for entry in one.all_told()])


class EqualTest(unittest.TestCase):

    def test_books_and_packages_in_order(self):
        found = [Program(Book()), Program(Book.ladder()), Program(Book(), base()), Program(Book(), lists()),
                 Program(Book(), base(), Package("z")), Program(Book(), Package("z"), base()),
                 Program(Book.ladder(), base())]
        for (at, one), (index, other) in itertools.product(enumerate(found), enumerate(found)):
            self.assertIs(one == other, at == index)
            self.assertIs(one != other, at != index)
        self.assertEqual(Program(Book(), base(), lists()), Program(Book(), lists()))
        for value in NO_NAMES + [base(), Book()]:
            self.assertIs(Program(Book()) == value, False)


class InterfaceTest(unittest.TestCase):

    def test_all_is_defined_in_the_class(self):
        found = ["book", "packages", "names", "many_instances", "view", "under", "with_instance"]
        signs = ["call", "getitem", "contains", "len", "or", "ror", "eq"]
        for name in found + [f"__{sign}__" for sign in signs]:
            self.assertIn(name, vars(Program))
        self.assertIsInstance(vars(Program)["book"], property)
        self.assertEqual(Program.__module__, "soleinstances.programs")


if __name__ == "__main__":
    unittest.main()
