"""Who may tell an instance and what it meets, promises [12] and [13]."""

import itertools
import unittest

from soleinstances import looks
from soleinstances.books import SWITCHES, Book
from soleinstances.errors import Meets, NoInstance, NotOwner, Refused
from soleinstances.looks import is_let, look_at, may_tell, met_by
from soleinstances.packages import Package
from tests.helping import NO_INDEXES, base, lists, more, raised
from tests.making import Maker
from tests.plain import plain_may_tell, plain_met_by


def kinds():
    """A package with constructors and tasks of one, two and three places, without instances."""
    return Package("kinds", constructors={"Int": 0, "List": 1, "Pair": 2}, tasks={"show": 1, "join": 2, "link": 3})


def teller(*told, name="teller", uses=None):
    """A package that owns Own and Opt, but none of the tasks."""
    uses = [kinds()] if uses is None else uses
    return Package(name, *uses, constructors={"Own": 0, "Opt": 1}, instances=told)


def refused(book, package):
    """What Refused tells: a tuple (package, number, reason class, its attributes), or None."""
    found = raised(look_at, book, package)
    if found is None:
        return None
    if found[0] is not Refused:
        raise AssertionError(found)
    reason = found[1]["reason"]
    return (found[1]["package"], found[1]["number"], type(reason), vars(reason))


class OwnerTest(unittest.TestCase):

    def check(self, text, words):
        """A package may tell an instance under just these words of the switch owner."""
        for word in SWITCHES["owner"]:
            package = teller(text)
            self.assertIs(may_tell(Book(owner=word), package, 0), word in words.split(), (text, word))

    def test_one_place(self):
        for text in ["show(Own)", "show(Opt(x))", "show(Opt(Int))"]:
            self.check(text, "early first any anybody")
        for text in ["show(x)", "show(Int)", "show(List(x))", "show(List(Own))", "show(Pair(Own,Opt(x)))"]:
            self.check(text, "anybody")

    def test_two_places(self):
        for text in ["join(Own,x)", "join(Own,Int)", "join(Opt(x),x)", "join(Own,Own)"]:
            self.check(text, "early first any anybody")
        for text in ["join(Int,Own)", "join(List(x),Opt(x))", "join(List(Own),Own)"]:
            self.check(text, "early any anybody")
        self.check("join(x,Own)", "any anybody")
        self.check("join(x,Opt(x))", "any anybody")
        for text in ["join(x,y)", "join(Int,x)", "join(x,Int)", "join(Int,Int)", "join(List(Own),x)", "join(x,List(Own))"]:
            self.check(text, "anybody")

    def test_three_places(self):
        for text in ["link(Own,x,y)", "link(Opt(x),x,Own)", "link(Own,Int,x)"]:
            self.check(text, "early first any anybody")
        for text in ["link(Int,Own,x)", "link(Int,Own,Own)", "link(Int,List(x),Own)", "link(Int,Opt(x),x)"]:
            self.check(text, "early any anybody")
        for text in ["link(x,Own,y)", "link(Int,x,Own)", "link(x,Own,Own)", "link(x,y,Opt(z))", "link(x,Int,Own)"]:
            self.check(text, "any anybody")
        for text in ["link(x,y,z)", "link(Int,Int,Int)", "link(List(Own),x,Pair(Own,Own))", "link(x,List(Own),Int)"]:
            self.check(text, "anybody")

    def test_the_owner_of_the_task(self):
        told = ["mine(x)", "mine(Int)", "mine(List(x))"]
        package = Package("own", kinds(), tasks={"mine": 1}, instances=told)
        for word, number in itertools.product(SWITCHES["owner"], range(3)):
            self.assertIs(may_tell(Book(owner=word), package, number), True)

    def test_constructors_of_a_package_that_is_seen(self):
        package = Package("other", teller(), instances=["show(Own)", "join(Int,Opt(x))"])
        for word, number in itertools.product(SWITCHES["owner"], range(2)):
            self.assertIs(may_tell(Book(owner=word), package, number), word == "anybody")

    def test_all_heads_of_few_terms(self):
        tops = ["x", "y", "Int", "Own", "List(Own)", "Opt(x)"]
        for task, many in [("show", 1), ("join", 2), ("link", 3)]:
            rows = list(itertools.product(tops, repeat=many))
            for at in range(0, len(rows), 8):
                package = teller(*[f"{task}({','.join(row)})" for row in rows[at:at + 8]])
                for word, number in itertools.product(SWITCHES["owner"], range(len(package))):
                    book = Book(owner=word)
                    self.assertIs(may_tell(book, package, number), plain_may_tell(book, package, number))

    def test_numbers_that_are_no_index(self):
        for number in NO_INDEXES + [1, 2]:
            for word in SWITCHES["owner"]:
                self.assertEqual(raised(may_tell, Book(owner=word), base(), number), (NoInstance, {"number": number}))
                self.assertEqual(raised(met_by, Book(owner=word), base(), number), (NoInstance, {"number": number}))
        self.assertEqual(raised(may_tell, Book(), kinds(), 0), (NoInstance, {"number": 0}))
        self.assertIs(may_tell(book=Book(), package=base(), number=0), True)


class LookTest(unittest.TestCase):

    def meets(self, one, other, words):
        """An instance meets another one, of a package that is seen, under just these words of the switch look."""
        for first, second in [(one, other), (other, one)]:
            seen = teller(first, name="seen")
            package = Package("sees", seen, instances=[second])
            for word, choose in itertools.product(SWITCHES["look"], SWITCHES["choose"]):
                book = Book(look=word, choose=choose)
                self.assertEqual(met_by(book, package, 0), ("seen", 0) if word in words.split() else None, (one, other))

    def test_example(self):
        self.assertEqual([met_by(Book(), more(), 0), met_by(Book.ladder(), more(), 0)], [("lists", 0), None])
        self.assertEqual(refused(Book(), more()), ("more", 0, NotOwner, {"task": "show"}))

    def test_nothing_in_common(self):
        for one, other in [("show(Int)", "show(Own)"), ("show(Int)", "join(Int,x)"), ("join(x,x)", "join(Int,Own)"),
                           ("show(List(x))", "show(Opt(x))"), ("join(x,x)", "join(y,List(y))")]:
            self.meets(one, other, "")

    def test_alike(self):
        for one, other in [("show(Int)", "show(Int)"), ("show(x)", "show(y)"), ("join(x,y)", "join(y,x)"),
                           ("show(List(x)) if show(x)", "show(List(y))")]:
            self.meets(one, other, "apart ladder same")

    def test_one_more_special(self):
        for one, other in [("show(Int)", "show(x)"), ("join(x,x)", "join(x,y)"), ("show(List(List(x)))", "show(List(y))")]:
            self.meets(one, other, "apart")

    def test_neither(self):
        for one, other in [("join(x,Int)", "join(Int,x)"), ("join(x,x)", "join(Int,y)"),
                           ("link(x,x,y)", "link(x,y,y)"), ("show(Pair(x,Int))", "show(Pair(List(x),y))")]:
            self.meets(one, other, "apart ladder")

    def test_instances_of_the_same_package(self):
        told = ["join(x,Int)", "join(Int,x)", "join(Int,Int)", "join(x,Int)"]
        package = teller(*told)
        rows = {
            "apart": [None, ("teller", 0), ("teller", 0), ("teller", 0)],
            "ladder": [None, ("teller", 0), None, ("teller", 0)],
            "same": [None, None, None, ("teller", 0)],
            "nothing": [None] * 4,
        }
        for word, choose in itertools.product(SWITCHES["look"], SWITCHES["choose"]):
            found = [met_by(Book(look=word, choose=choose), package, number) for number in range(4)]
            self.assertEqual(found, [None] * 4 if choose == "first" else rows[word])

    def test_the_first_one_as_they_are_told(self):
        left = teller("show(Own)", "show(x)", name="left")
        right = Package("right", left, instances=["show(Int)", "show(y)"])
        package = Package("both", right, instances=["show(z)", "show(Int)"])
        self.assertEqual([met_by(Book(), package, number) for number in [0, 1]], [("left", 0), ("left", 1)])
        same = Book(look="same")
        self.assertEqual([met_by(same, package, number) for number in [0, 1]], [("left", 1), ("right", 0)])
        self.assertEqual([met_by(same, right, number) for number in [0, 1]], [None, ("left", 1)])

    def test_packages_of_which_neither_sees_the_other(self):
        left = teller("show(x)", name="left", uses=[kinds()])
        right = Package("right", kinds(), instances=["show(x)"])
        both = Package("both", left, right, instances=["join(x,y)"])
        self.assertIsNone(met_by(Book(), both, 0))
        self.assertIs(is_let(Book.orphans(), both), True)

    def test_packages_that_see_this_one(self):
        self.assertIsNone(met_by(Book(), base(), 0))
        self.assertIs(is_let(Book(), base()), True)


class LetTest(unittest.TestCase):

    def test_the_owner_is_looked_at_first_instance_by_instance(self):
        package = Package("a", lists(), constructors={"Own": 0}, instances=["show(Own)", "show(Own)", "show(Int)"])
        self.assertEqual(refused(Book(), package), ("a", 1, Meets, {"package": "a", "number": 0}))
        self.assertEqual(refused(Book(look="nothing"), package), ("a", 2, NotOwner, {"task": "show"}))
        self.assertEqual(refused(Book(choose="first"), package), ("a", 2, NotOwner, {"task": "show"}))
        self.assertIsNone(refused(Book(look="nothing", owner="anybody"), package))
        self.assertEqual(refused(Book(choose="first", owner="anybody"), package),
                         ("a", 2, Meets, {"package": "base", "number": 0}))
        both = Package("b", lists(), instances=["show(List(x))"])
        self.assertEqual(refused(Book(), both), ("b", 0, NotOwner, {"task": "show"}))
        self.assertEqual(refused(Book.orphans(), both), ("b", 0, Meets, {"package": "lists", "number": 0}))

    def test_let(self):
        for package in [base(), lists(), kinds(), teller("show(Own)", "show(Opt(x))")]:
            self.assertIsNone(look_at(Book(), package))
            self.assertIs(is_let(Book(), package), True)
        self.assertIs(is_let(Book(), more()), False)
        self.assertIs(is_let(book=Book.orphans(), package=more()), False)
        self.assertIs(is_let(Book(owner="anybody", look="ladder"), more()), True)

    def test_by_chance_under_all_books(self):
        maker = Maker(12)
        for package in [package for _ in range(150) for package in maker.packages(3, 5)]:
            for book in [maker.any_book() for _ in range(6)]:
                expected = None
                for number in range(len(package)):
                    met = plain_met_by(book, package, number)
                    self.assertEqual(met_by(book, package, number), met)
                    self.assertIs(may_tell(book, package, number), plain_may_tell(book, package, number))
                    if not plain_may_tell(book, package, number):
                        expected = expected or (package.name, number, NotOwner, {"task": package[number].head.task})
                    elif met is not None:
                        expected = expected or (package.name, number, Meets, {"package": met[0], "number": met[1]})
                self.assertEqual(refused(book, package), expected)
                self.assertIs(is_let(book, package), expected is None)

    def test_all_is_defined_here(self):
        for call in [may_tell, met_by, is_let, look_at]:
            self.assertEqual(call.__module__, looks.__name__)


if __name__ == "__main__":
    unittest.main()
