"""Later packages, promise [20], and [3] (f)."""

import itertools
import unittest

from soleinstances import later as module
from soleinstances.books import SWITCHES, Book, all_books
from soleinstances.errors import (InvalidBook, InvalidInstance, NoInstance, SoleError, Undecided, UnknownName)
from soleinstances.heads import Head
from soleinstances.instances import Instance
from soleinstances.later import lasts, meeting, meetings, new_names, open_place
from soleinstances.looks import is_let
from soleinstances.packages import Package
from soleinstances.programs import Program
from soleinstances.terms import Term
from tests.helping import NO_INDEXES, NO_NAMES, Agreeing, base, lists, raised
from tests.making import Maker

NO_BOOKS = NO_NAMES + [base(), ("early", "apart"), Agreeing()]
NO_INSTANCES = NO_NAMES + ["", "show", "show(x", "show(x) if", "show(x) if show(x)", "x", Head("show", "x"), Term("x"),
                           base(), Agreeing()]
UNDECIDED = {part: (Undecided, {"part": part}) for part in ["packages", "look", "owner", "wants", "early"]}


def kinds(*told, name="kinds"):
    """A package with all that the tests need, and some instances."""
    return Package(name, constructors={"Int": 0, "List": 1, "Pair": 2},
                   tasks={"show": 1, "join": 2, "link": 3, "is": 1}, instances=told)


def eight(*told):
    """Eight packages, the first one with some instances."""
    return [kinds(*told), *[Package(letter) for letter in "abcdefg"]]


def plain_open_place(owner, places):
    """[20], for the owners and the numbers of places under which it is decided."""
    for index, place in enumerate(places):
        if place in ("x", "y", "z") and (owner == "early" or index == 0):
            return index
    return None


class OpenPlaceTest(unittest.TestCase):

    def test_all_heads_of_few_terms(self):
        for owner, (task, many) in itertools.product(SWITCHES["owner"], [("show", 1), ("join", 2), ("link", 3)]):
            for row in itertools.product(["x", "y", "Int", "List(x)", "Pair(x,y)"], repeat=many):
                text = f"{task}({','.join(row)})"
                if Head.read(text).size > 8:
                    continue
                for value in [text, Instance(text)]:
                    if (owner == "any" and many > 1) or owner == "anybody":
                        self.assertEqual(raised(open_place, Book(owner=owner), value), UNDECIDED["owner"])
                    else:
                        self.assertEqual(open_place(Book(owner=owner), value), plain_open_place(owner, row), (owner, text))

    def test_some(self):
        rows = [("show(x)", 0, 0), ("show(List(x))", None, None), ("join(Int,x)", 1, None), ("join(x,Int)", 0, 0),
                ("link(Int,List(x),x)", 2, None), ("link(Int,x,y)", 1, None), ("link(Int,Int,List(y))", None, None)]
        for text, early, first in rows:
            self.assertEqual([open_place(Book(owner=owner), text) for owner in ["early", "first"]], [early, first])
        self.assertEqual(open_place(book=Book(owner="any"), instance="show(x)"), 0)
        self.assertIsNone(open_place(Book(owner="any"), "show(List(x)) if show(x)"))
        self.assertEqual(open_place(Book(), "join(Int,x) if show(x)"), 1)

    def test_other_switches_do_not_matter(self):
        for book in all_books():
            if book.owner == "early":
                self.assertEqual(open_place(book, "join(Int,x)"), 1)

    def test_errors(self):
        for value in NO_BOOKS:
            for instance in ["show(x)", None]:
                self.assertEqual(raised(open_place, value, instance), (InvalidBook, {"part": None}))
        for owner, value in itertools.product(SWITCHES["owner"], NO_INSTANCES):
            self.assertEqual(raised(open_place, Book(owner=owner), value), (InvalidInstance, {"number": None}))
        self.assertEqual(raised(open_place, Book(owner="any"), "join(Int,Int)"), UNDECIDED["owner"])
        self.assertEqual(raised(open_place, Book(owner="anybody"), "show(Int)"), UNDECIDED["owner"])


class NewNamesTest(unittest.TestCase):

    def test_the_first_ones(self):
        self.assertEqual(new_names([], 4), ["n", "na", "nb", "nc"])
        self.assertEqual(new_names([], 3, upper=True), ["N", "Na", "Nb"])
        self.assertEqual(new_names(["n", "nb"], 3), ["na", "nc", "nd"])
        self.assertEqual(new_names(["N", "nb", "n"], 2, upper=True), ["Na", "Nb"])
        self.assertEqual(new_names(taken=["N"], many=2, upper=False), ["n", "na"])
        self.assertEqual(new_names(["n"], 0), [])

    def test_behind_nz(self):
        letters = "abcdefghijklmnopqrstuvwxyz"
        every = ["n"] + ["n" + one for one in letters] + ["n" + one + other for one in letters for other in letters]
        every.extend(["naaa", "naab"])
        for upper in [False, True]:
            names = ["N" + name[1:] for name in every] if upper else every
            self.assertEqual(new_names([], len(names), upper=upper), names)
            taken = [names[0], names[5], names[26], names[27], names[30], names[702], names[703]]
            expected = [name for name in names if name not in taken]
            self.assertEqual(new_names(taken, len(expected), upper=upper), expected)
            self.assertEqual(new_names(names[:27], 2, upper=upper), names[27:29])

    def test_the_list_is_not_changed(self):
        taken = ["n"]
        new_names(taken, 3).append("z")
        self.assertEqual(taken, ["n"])
        self.assertEqual(new_names(taken, 1), ["na"])


class MeetingTest(unittest.TestCase):

    def test_example(self):
        general = Package("general", tasks={"show": 1}, instances=["show(x)"])
        later = meeting(Program(Book.ladder(), general), "general", 0)
        self.assertEqual([later.name, later.constructors(), str(later[0])], ["n", {"N": 0}, "show(N)"])
        self.assertIs(lasts(Program(Book(), general)), True)

    def check(self, program, name, number, text):
        """The told package is just as it has to be, and tells this head; None for no package."""
        later = meeting(program, name, number)
        if text is None:
            self.assertIsNone(later)
            return
        instance = program[name][number]
        self.assertEqual((type(later), later.uses(), later.tasks(), len(later)), (Package, [program[name]], {}, 1))
        self.assertEqual((str(later[0]), later[0].needs()), (text, []))
        self.assertIsNotNone(later[0].head & instance.head)
        self.assertLessEqual(later[0].head, instance.head)
        self.assertEqual(list(later.constructors().values()), [0] * len(instance.head.variables()))
        self.assertEqual([entry[0] for entry in later[0].head.constructors() if entry[0] in later.constructors()],
                         list(later.constructors()))
        self.assertEqual((program | later).names(), program.names() + [later.name])
        self.assertNotIn(later.name, program.names())

    def test_each_owner_and_look(self):
        rows = [("show(x)", "show(N)", "show(N)", "show(N)"), ("show(List(x))", None, None, None),
                ("join(x,x)", "join(N,N)", "join(N,N)", 0), ("join(Int,x)", "join(Int,N)", None, 0),
                ("join(List(x),y)", "join(List(N),Na)", None, 0), ("link(y,x,y)", "link(N,Na,N)", "link(N,Na,N)", 0),
                ("link(Int,Pair(x,y),x)", "link(Int,Pair(N,Na),N)", None, 0), ("show(Int)", None, None, None),
                ("join(x,List(y)) if show(y)", "join(N,List(Na))", "join(N,List(Na))", 0)]
        for text, early, first, anyone in rows:
            for look, choose in itertools.product(SWITCHES["look"], SWITCHES["choose"]):
                for owner, expected in [("early", early), ("first", first), ("any", anyone)]:
                    program = Program(Book(owner=owner, look=look, choose=choose), kinds(text))
                    if expected == 0:
                        self.assertEqual(raised(meeting, program, "kinds", 0), UNDECIDED["owner"])
                        self.assertEqual(raised(lasts, program), UNDECIDED["owner"])
                        continue
                    self.check(program, "kinds", 0, None if look == "apart" else expected)
                    self.assertIs(lasts(program), look == "apart" or expected is None)
                program = Program(Book(owner="anybody", look=look, choose=choose), kinds(text))
                self.assertEqual(raised(meeting, program, "kinds", 0), UNDECIDED["owner"])

    def test_instances_of_several_packages(self):
        top = Package("top", kinds("show(List(x))", "show(x)"), constructors={"Own": 1},
                      instances=["join(Own(x),y)", "show(Own(x))"])
        program = Program(Book.ladder(), top, Package("other"))
        self.check(program, "kinds", 0, None)
        self.check(program, "kinds", 1, "show(N)")
        self.check(program, "top", 0, "join(Own(N),Na)")
        self.check(program, "top", 1, None)
        self.assertEqual([(name, number, str(later[0])) for name, number, later in meetings(program)],
                         [("kinds", 1, "show(N)"), ("top", 0, "join(Own(N),Na)")])
        for name, number, later in meetings(program):
            self.assertEqual(later, meeting(program=program, name=name, number=number))
        self.assertIs(lasts(program), False)

    def test_names_that_are_taken(self):
        one = Package("n", constructors={"N": 0, "Na": 1, "Nc": 0}, tasks={"join": 2}, instances=["join(x,y)"])
        other = Package("na", constructors={"Nd": 0, "Nf": 2}, tasks={"nb": 1, "nc": 1})
        program = Program(Book.ladder(), one, other)
        later = meeting(program, "n", 0)
        self.assertEqual((later.name, later.constructors(), str(later[0])), ("nb", {"Nb": 0, "Ne": 0}, "join(Nb,Ne)"))
        self.check(program, "n", 0, "join(Nb,Ne)")
        self.assertEqual((program | later).names(), ["n", "na", "nb"])

    def test_the_most_variables_of_an_instance(self):
        program = Program(Book.ladder(), kinds("link(v,Pair(w,x),Pair(y,z))"))
        self.check(program, "kinds", 0, "link(N,Pair(Na,Nb),Pair(Nc,Nd))")

    def test_another_package_that_is_met(self):
        """The later package is let beside all instances that its package sees, whatever these are."""
        rows = [("ladder", ["join(x,y)", "join(List(x),y)", "join(List(x),x)"], ["join(N,Na)", "join(List(N),Na)", "join(List(N),N)"]),
                ("same", ["join(x,y)", "join(x,x)", "join(Int,x)"], ["join(N,Na)", "join(N,N)", "join(Int,N)"]),
                ("nothing", ["join(x,y)", "join(y,x)"], ["join(N,Na)", "join(N,Na)"])]
        for look, told, texts in rows:
            program = Program(Book(look=look), kinds(*told))
            for number, text in enumerate(texts):
                self.check(program, "kinds", number, text)

    def test_errors(self):
        for owner, look in itertools.product(["early", "any"], ["apart", "ladder"]):
            program = Program(Book(owner=owner, look=look, choose="first"), kinds("show(x)", "join(Int,x)"))
            full = Program(Book(owner=owner, look=look, choose="first"), *eight("show(x)", "join(Int,x)"))
            for held in [program, full]:
                for name in NO_NAMES + ["", "show", "Int", "other", base(), Agreeing()]:
                    self.assertEqual(raised(meeting, held, name, None), (UnknownName, {"name": name}))
                for number in NO_INDEXES + [2]:
                    self.assertEqual(raised(meeting, held, "kinds", number), (NoInstance, {"number": number}))
            for number in [0, 1]:
                self.assertEqual(raised(meeting, full, "kinds", number), UNDECIDED["packages"])
            self.assertEqual(raised(meeting, program, "kinds", 1) is None, owner == "early")
        seven = Program(Book.ladder(), *eight("show(x)")[:7])
        self.check(seven, "kinds", 0, "show(N)")
        self.assertEqual(raised(meeting, Program(Book(), *eight("show(Int)")), "kinds", 0), UNDECIDED["packages"])

    def test_a_chain_of_seven_packages(self):
        last = kinds("show(x)")
        for letter in "abcdef":
            last = Package(letter, last, constructors={letter.upper(): 0}, instances=[f"show({letter.upper()})"])
        program = Program(Book.ladder(), last)
        self.check(program, "kinds", 0, "show(N)")
        self.check(program, "f", 0, None)


class LastsTest(unittest.TestCase):

    def test_undecided_ones_ahead_and_behind(self):
        book = Book(owner="any", look="ladder")
        for told in [["show(x)", "join(Int,Int)"], ["join(Int,Int)", "show(x)"], ["show(Int)", "join(x,y)"]]:
            program = Program(book, kinds(*told))
            self.assertEqual(raised(lasts, program), UNDECIDED["owner"])
            found = meetings(program)
            if told[0] == "show(x)":
                name, number, later = next(found)
                self.assertEqual((name, number, str(later[0])), ("kinds", 0, "show(N)"))
            self.assertEqual(raised(next, found), UNDECIDED["owner"])
        ahead = Package("ahead", tasks={"all": 2}, instances=["all(x,y)"])
        for packages, many in [([ahead, kinds("show(x)")], 0), ([kinds("show(x)"), ahead], 1)]:
            found = meetings(Program(book, *packages))
            self.assertEqual(len(list(itertools.islice(found, many))), many)
            self.assertEqual(raised(next, found), UNDECIDED["owner"])

    def test_undecided_under_anybody(self):
        program = Program(Book(owner="anybody"), kinds("show(Int)"))
        self.assertEqual(raised(lasts, program), UNDECIDED["owner"])
        self.assertEqual(raised(lambda: list(meetings(program))), UNDECIDED["owner"])
        without = Program(Book(owner="anybody"), kinds())
        self.assertIs(lasts(without), True)
        self.assertEqual(list(meetings(without)), [])

    def test_eight_packages(self):
        for told in [["show(x)"], ["join(Int,Int)"], []]:
            for book in [Book(), Book.ladder(), Book(owner="any"), Book.orphans()]:
                program = Program(book, *eight(*told))
                self.assertEqual(raised(lasts, program), UNDECIDED["packages"])
                found = meetings(program)
                self.assertEqual(raised(next, found), UNDECIDED["packages"])

    def test_without_instances(self):
        for book in all_books():
            for program in [Program(book), Program(book, kinds())]:
                self.assertIs(lasts(program=program), True)
                self.assertEqual(list(meetings(program=program)), [])


class ByChanceTest(unittest.TestCase):
    """[3] (f): no package that could be written behind a program meets an instance that cannot be met."""

    def heads(self, program):
        """Some texts of heads that a later package with Own and Opt could tell."""
        terms = ["x", "y", "Own", "Opt(x)", "Int", "List(Own)"]
        for package in program.packages():
            for head in [instance.head for instance in package.instances()]:
                for row in itertools.product(["Own", "Opt(x)", "Int", "y"], repeat=len(head.variables())):
                    yield str(head.put(dict(zip(head.variables(), row))))
            for task, many in package.tasks().items():
                for row in itertools.product(terms, repeat=many):
                    yield f"{task}({','.join(row)})"

    def met_in_some_way(self, program, heads):
        """The set of the (name, number) of those that some later package meets."""
        found = set()
        uses = [[package] for package in program.packages()] + [program.packages()[:4]]
        for use, text in itertools.product(uses, heads):
            try:
                later = Package("later", *use, constructors={"Own": 0, "Opt": 1}, instances=[text])
            except SoleError:
                continue
            if not is_let(program.book, later):
                continue
            for package in program.packages():
                for number, instance in enumerate(package.instances()):
                    if instance.head & later[0].head is not None:
                        found.add((package.name, number))
        return found

    def test_by_chance(self):
        checked = {True: 0, False: 0}
        books = [book for book in all_books() if book.owner != "anybody" and book.wants == "behind" and book.early == "wait"]
        for number, book in enumerate(books * 2):
            program = Maker(5000 + number, book, 2).program(2, 4)
            met = self.met_in_some_way(program, list(self.heads(program)))
            for package in program.packages():
                for index, instance in enumerate(package.instances()):
                    if book.owner == "any" and len(instance.head) > 1:
                        self.assertEqual(raised(meeting, program, package.name, index), UNDECIDED["owner"])
                        continue
                    later = meeting(program, package.name, index)
                    self.assertEqual(later is not None, (package.name, index) in met, (book, str(instance)))
                    checked[later is not None] += 1
                    if later is not None:
                        self.assertIs(is_let(book, later), True)
                        self.assertEqual((program | later).names(), program.names() + [later.name])
        self.assertGreater(min(checked.values()), 20, checked)


class InterfaceTest(unittest.TestCase):

    def test_all_is_defined_here(self):
        for call in [open_place, meeting, lasts, meetings, new_names]:
            self.assertEqual(call.__module__, module.__name__)


if __name__ == "__main__":
    unittest.main()
