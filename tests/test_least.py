"""Least programs, promises [17] and [3] (c)."""

import itertools
import unittest

from soleinstances import least as module
from soleinstances.books import Book, all_books
from soleinstances.errors import InvalidBook, InvalidPlaces, SoleError, TooMany
from soleinstances.faults import faults, is_fault
from soleinstances.least import least_program
from soleinstances.looks import is_let
from soleinstances.packages import Package
from soleinstances.programs import Program
from soleinstances.tables import sound_paper
from tests.helping import NO_NAMES, NO_PLACES, Agreeing, base, raised
from tests.making import BOOKS, Maker

ALL = [(book, places) for book in all_books() for places in [1, 2, 3]]


def size_of(found):
    """The number of packages and of instances of what least_program tells; more than any for a sound book."""
    return (9, 0) if found is None else (len(found[0]), found[0].many_instances())


def first_fault(program, deep):
    """The first fault of a program with terms up to a depth, or None."""
    return next(faults(program, deep), None)


class LeastTest(unittest.TestCase):

    def test_example(self):
        program, fault = least_program(Book(owner="any"), 2)
        self.assertEqual([len(program), program.many_instances(), fault[0]], [4, 2, "clash"])

    def test_all_books(self):
        told = {}
        for book, places in ALL:
            found = least_program(book, places)
            self.assertEqual(found is None, sound_paper(book, places) is not None, (book, places))
            told.setdefault(None if found is None else (*size_of(found), found[1][0]), []).append((book, places))
            if found is None:
                continue
            self.assertEqual((type(found), len(found), type(found[0])), (tuple, 2, Program))
            program, fault = found
            self.assertEqual(program.book, book)
            self.assertIs(is_fault(program, fault), True, (book, places))
            for package in program.packages():
                self.assertTrue(is_let(book, package))
                self.assertTrue(all([many <= places for many in package.tasks().values()]))
            self.assertLessEqual(len(program), 4)
            self.assertLessEqual(program.many_instances(), 2)
        self.assertEqual({key: len(rows) for key, rows in told.items()}, {
            None: 126, (1, 2, "clash"): 360, (1, 2, "early"): 120, (2, 1, "part"): 96, (2, 2, "clash"): 108,
            (2, 2, "early"): 18, (4, 2, "clash"): 36})

    def test_the_sizes_by_their_reasons(self):
        rows = [
            ({}, None), ({"owner": "first", "early": "once"}, None), ({"choose": "first", "early": "wait"}, None),
            ({"look": "ladder", "choose": "special"}, None), ({"look": "ladder"}, (1, 2)),
            ({"look": "same", "choose": "special"}, (1, 2)), ({"look": "nothing", "choose": "special"}, (1, 2)),
            ({"choose": "first", "early": "once"}, (1, 2)), ({"look": "ladder", "choose": "special", "early": "once"}, (1, 2)),
            ({"look": "ladder", "choose": "special", "early": "wait"}, (2, 2)), ({"look": "same", "choose": "first"}, (2, 2)),
            ({"owner": "anybody"}, (2, 1)), ({"owner": "anybody", "look": "ladder"}, (1, 2)),
            ({"owner": "anybody", "look": "nothing", "choose": "first"}, (2, 1)),
        ]
        for words, size in rows:
            for places in [1, 2, 3]:
                found = least_program(Book(**words), places)
                self.assertEqual(None if found is None else size_of(found), size, (words, places))
        for words in [{}, {"choose": "first"}, {"look": "ladder", "choose": "special"}, {"wants": "ahead"}]:
            book = Book(owner="any", **words)
            self.assertIsNone(least_program(book, 1))
            self.assertEqual([size_of(least_program(book, places)) for places in [2, 3]], [(4, 2), (4, 2)])

    def test_places_left_out_and_names(self):
        self.assertEqual(least_program(Book(owner="any")), least_program(book=Book(owner="any"), places=3))
        self.assertIsNone(least_program(Book()))

    def test_the_book_is_not_kept(self):
        book = Book(look="ladder")
        program, _ = least_program(book, 1)
        book.look = "nothing"
        self.assertEqual(program.book, Book(look="ladder"))

    def test_errors(self):
        for value in NO_NAMES + [base(), ("early",), Agreeing()]:
            self.assertEqual(raised(least_program, value), (InvalidBook, {"part": None}))
            self.assertEqual(raised(least_program, value, 0), (InvalidBook, {"part": None}))
        for value in NO_PLACES:
            for book in [Book(), Book(look="ladder")]:
                self.assertEqual(raised(least_program, book, value), (InvalidPlaces, {"value": value}))


class NoLesserOneTest(unittest.TestCase):
    """Under no book a program with fewer packages, or as many and fewer instances, has a fault."""

    def check(self, book, places, program, deep):
        """The program has no fault, if it is let by the book and less than what least_program tells."""
        try:
            held = program if isinstance(program, Program) else Program(book, *program)
            size = (len(held), held.many_instances())
            if size < size_of(least_program(book, places)):
                self.assertIsNone(first_fault(held, deep), (book, held.packages()))
                return 1
        except (SoleError, TooMany):
            pass
        return 0

    def test_programs_of_one_instance(self):
        heads = ["show(x)", "show(Int)", "show(List(x))", "show(List(Int))", "show(List(x)) if is(x)",
                 "is(List(x)) if is(x)", "is(List(x)) if show(x)", "show(List(x)) if is(x) show(x)"]
        for book in BOOKS:
            for head in heads:
                one = Package("one", constructors={"Int": 0, "List": 1}, tasks={"show": 1, "is": 1}, instances=[head])
                self.assertEqual(self.check(book, 1, [one], 2), 1)

    def test_programs_of_one_package(self):
        """For books of which the least program has more than one package."""
        heads = ["join(x,y)", "join(x,Int)", "join(Int,x)", "join(Int,Int)", "join(x,x)", "join(Set,x)", "is(x)", "is(Int)"]
        packages = [Package("one", constructors={"Int": 0, "Set": 0}, tasks={"join": 2, "is": 1}, instances=told)
                    for told in itertools.combinations(heads, 2)]
        packages.extend([Package("one", constructors={"Int": 0, "List": 1}, tasks={"show": 1, "is": 1},
                                 instances=["show(List(x)) if is(x)", told, "show(List(List(x)))", other])
                         for told in ["is(Int)", "is(x)", "is(List(x)) if is(x)"] for other in ["show(Int)", "is(List(x))"]])
        books = [book for book in BOOKS if size_of(least_program(book, 2))[0] > 1]
        self.assertEqual(len(books), 128)
        checked = sum([self.check(book, 2, [package], 1 if len(package) == 2 else 2) for book in books for package in packages])
        self.assertGreater(checked, 2000)

    def test_programs_of_two_packages(self):
        """With one instance, or none, for those with two of each."""
        heads = [None, "show(x)", "show(List(x)) if show(x)", "show(Own)", "show(Int)", "show(Opt(x)) if show(x)"]
        checked = 0
        for book in BOOKS:
            for first, head in itertools.product([False, True], heads):
                told = [] if head is None else [head]
                here = told if first else []
                kinds = {"Int": 0, "List": 1}
                try:
                    one = Package("one", constructors=kinds, tasks={"show": 1}, instances=here)
                    two = Package("two", one, constructors={"Own": 0, "Opt": 1}, instances=[] if first else told)
                except SoleError:
                    continue
                checked += self.check(book, 1, [two], 2)
        self.assertGreater(checked, 700)

    def test_programs_made_by_chance(self):
        checked = 0
        for number, (book, places) in enumerate(ALL):
            if number % 2 == 0 or size_of(least_program(book, places))[0] > 2:
                maker = Maker(number, book, places)
                many = maker.chance.randint(1, min(4, size_of(least_program(book, places))[0]))
                checked += self.check(book, places, maker.program(many, 4), 1)
        self.assertGreater(checked, 80)

    def test_four_packages_and_one_instance(self):
        for book in [Book(owner="any"), Book(owner="any", choose="first"), Book(owner="any", look="ladder", choose="special")]:
            for told in ["join(Left,x)", "join(x,Left)", "join(Left,Left)"]:
                one = Package("one", tasks={"join": 2})
                left = Package("left", one, constructors={"Left": 0}, instances=[told])
                right = Package("right", one, constructors={"Right": 0})
                self.assertEqual(self.check(book, 2, [Package("both", left, right)], 1), 1)


class InterfaceTest(unittest.TestCase):

    def test_all_is_defined_here(self):
        self.assertEqual(least_program.__module__, module.__name__)


if __name__ == "__main__":
    unittest.main()
