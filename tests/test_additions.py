"""Additions, promises [21] and [22], and [3] (g)."""

import itertools
import unittest

from soleinstances import additions as module
from soleinstances.additions import Addition, addition, safe_additions
from soleinstances.books import SWITCHES, Book, all_books
from soleinstances.errors import (InvalidInstance, InvalidOwned, Meets, NotOwner, NotSeen, Refused, SoleError, TooMany,
                                  Undecided, UnknownName, WrongPlaces)
from soleinstances.faults import open_questions, questions
from soleinstances.heads import Head
from soleinstances.instances import Instance
from soleinstances.looks import is_let
from soleinstances.packages import Package
from soleinstances.programs import Program
from soleinstances.terms import Term
from tests.helping import NO_NAMES, Agreeing, base, lists, raised
from tests.making import Maker
from tests.plain import outcome_of

NO_INSTANCES = NO_NAMES + ["", "show", "show(x", "show(x) if", "show(x) if show(x)", "x", Head("show", "x"), Term("x"),
                           base(), Agreeing()]
UNDECIDED = {part: (Undecided, {"part": part}) for part in ["packages", "look", "owner", "wants", "early"]}
DECIDED = [{}, {"choose": "special"}, {"choose": "first"}, {"owner": "first"}, {"wants": "ahead"}, {"early": "once"},
           {"early": "wait", "choose": "special", "wants": "ahead"}, {"owner": "first", "choose": "first"}]


def kinds(*told):
    """A package with all that the tests need, and some instances."""
    return Package("kinds", constructors={"Int": 0, "List": 1, "Pair": 2, "Set": 0},
                   tasks={"show": 1, "join": 2, "link": 3, "is": 1}, instances=told)


def plain_undecided(book, many):
    """[22]: the part for which an addition with so many places is not decided, or None."""
    if book.look != "apart":
        return "look"
    if book.owner == "anybody" or (book.owner == "any" and many > 1):
        return "owner"
    if book.wants == "ahead" and (book.owner == "any" or book.choose == "first"):
        return "wants"
    if book.early != "refused" and book.choose == "first":
        return "early"
    return None


class AdditionTest(unittest.TestCase):

    def refused(self, program, name, instance, cause, reason):
        """The addition is refused with this cause, and this reason of it."""
        found = addition(program, name, instance)
        self.assertEqual((type(found), found.word, bool(found)), (Addition, "refused", False))
        self.assertEqual((found.program, found.user), (None, None))
        self.assertEqual((type(found.cause), found.cause.package, found.cause.number), (Refused, *cause))
        self.assertEqual((type(found.cause.reason), vars(found.cause.reason)), reason)
        self.named(found, name, instance)

    def met(self, program, name, instance, text):
        """The addition is met by a user that tells this head."""
        found = addition(program, name, instance)
        self.assertEqual((found.word, bool(found)), ("met", False))
        self.assertEqual(found.program, program.with_instance(name, instance))
        user = found.user
        self.assertEqual((type(user), user.uses(), user.tasks()), (Package, [program[name]], {}))
        self.assertEqual([str(told) for told in user.instances()], [text])
        self.assertEqual(list(user.constructors().values()), [0] * len(found.instance.head.variables()))
        self.assertEqual((program | user).names(), program.names() + [user.name])
        self.assertIs(is_let(program.book, user), True)
        behind = user.using(program[name].with_instance(instance))
        self.assertIs(is_let(program.book, behind), False)
        self.assertEqual((type(found.cause), found.cause.package, found.cause.number), (Refused, user.name, 0))
        self.assertEqual((type(found.cause.reason), vars(found.cause.reason)),
                         (Meets, {"package": name, "number": len(program[name])}))
        self.assertEqual(raised(lambda: found.program | behind)[0], Refused)
        self.named(found, name, instance)

    def safe(self, program, name, instance):
        """The addition is safe."""
        found = addition(program, name, instance)
        self.assertEqual((found.word, bool(found)), ("safe", True))
        self.assertEqual((found.user, found.cause), (None, None))
        self.assertEqual((type(found.program), found.program), (Program, program.with_instance(name, instance)))
        self.named(found, name, instance)

    def named(self, found, name, instance):
        """The attribute and the property of what was handed in."""
        self.assertEqual(vars(found)["name"], name)
        self.assertEqual((type(found.instance), str(found.instance)), (Instance, str(instance)))

    def test_examples(self):
        program = Program(Book(), lists())
        self.refused(program, "lists", "show(List(List(x)))", ("lists", 1), (Meets, {"package": "lists", "number": 0}))
        two = Program(Book(), Package("two", tasks={"join": 2}, constructors={"Key": 0, "Lock": 0}))
        self.safe(two, "two", "join(Key,Lock)")
        self.met(two, "two", "join(Key,x)", "join(Key,N)")

    def test_under_sole_and_special(self):
        for words in [{}, {"choose": "special"}, {"early": "once", "wants": "ahead"}]:
            program = Program(Book(**words), kinds("show(Int)", "join(Int,x)"))
            self.refused(program, "kinds", "show(x)", ("kinds", 2), (Meets, {"package": "kinds", "number": 0}))
            self.refused(program, "kinds", "join(x,Int)", ("kinds", 2), (Meets, {"package": "kinds", "number": 1}))
            self.met(program, "kinds", "is(x)", "is(N)")
            self.met(program, "kinds", "join(Set,x) if is(x)", "join(Set,N)")
            self.met(program, "kinds", Instance("link(x,Pair(y,z),x)", "show(y)"), "link(N,Pair(Na,Nb),N)")
            self.safe(program, "kinds", "show(List(x)) if show(x)")
            self.safe(program, "kinds", Instance("join(Set,List(x))"))

    def test_the_open_place_by_the_owner(self):
        for owner, expected in [("early", "met"), ("first", "safe")]:
            for text in ["join(Int,x)", "link(Int,Pair(x,y),z)"]:
                self.assertEqual(addition(Program(Book(owner=owner), kinds()), "kinds", text).word, expected)
        self.met(Program(Book(owner="first"), kinds()), "kinds", "join(x,List(y))", "join(N,List(Na))")

    def test_under_owner_any(self):
        for words in [{}, {"choose": "special", "early": "once"}, {"choose": "first"}]:
            program = Program(Book(owner="any", **words), kinds())
            self.met(program, "kinds", "show(x)", "show(N)")
            self.safe(program, "kinds", "show(List(x))")
            for text in ["join(x,y)", "join(Int,Int)", "link(Int,Int,x)"]:
                self.assertEqual(raised(addition, program, "kinds", text), UNDECIDED["owner"])

    def test_under_first(self):
        program = Program(Book(choose="first"), kinds("show(Int)", "join(x,y)", "is(List(x))"))
        self.met(program, "kinds", "show(x)", "show(N)")
        self.met(program, "kinds", "is(x)", "is(N)")
        self.safe(program, "kinds", "join(Int,x)")
        self.safe(program, "kinds", "join(x,x)")
        self.safe(program, "kinds", "join(y,x)")
        self.safe(program, "kinds", "show(Int)")
        self.met(Program(Book(choose="first"), kinds("join(x,x)")), "kinds", "join(x,y)", "join(N,Na)")
        self.met(Program(Book(choose="first"), kinds("join(x,Int)")), "kinds", "join(Int,x)", "join(Int,N)")
        self.safe(Program(Book(choose="first"), kinds("join(x,Int)", "join(Int,y)")), "kinds", "join(Int,z)")

    def test_under_first_another_package(self):
        book = Book(choose="first")
        user = Package("user", kinds("join(x,y)"), constructors={"Own": 0}, tasks={"own": 1}, instances=["own(x)"])
        program = Program(book, user)
        self.refused(program, "user", "join(Own,x)", ("user", 1), (Meets, {"package": "kinds", "number": 0}))
        self.safe(program, "user", "own(Own)")
        self.safe(program, "kinds", "join(Int,x)")
        self.met(program, "kinds", "show(x)", "show(N)")

    def test_a_package_of_the_program_that_is_refused(self):
        for choose in SWITCHES["choose"]:
            user = Package("user", kinds(), constructors={"Own": 0}, instances=["is(Own)", "show(Own)"])
            program = Program(Book(choose=choose), user, Package("top", user))
            self.refused(program, "kinds", "show(x)", ("user", 1), (Meets, {"package": "kinds", "number": 0}))
            self.safe(program, "kinds", "show(List(x))")
            self.refused(program, "user", "show(Int)", ("user", 2), (NotOwner, {"task": "show"}))
            self.refused(program, "top", "show(Own)", ("top", 0), (NotOwner, {"task": "show"}))

    def test_the_names_of_the_user(self):
        one = Package("n", constructors={"N": 0, "Na": 1}, tasks={"join": 2})
        other = Package("na", constructors={"Nb": 0}, tasks={"nb": 1})
        program = Program(Book(), one, other)
        self.met(program, "n", "join(x,y)", "join(Nc,Nd)")
        self.assertEqual(addition(program, "n", "join(x,y)").user.name, "nb")

    def test_packages_that_use_it(self):
        user = Package("user", kinds(), constructors={"Own": 0}, instances=["show(Own)"])
        found = addition(Program(Book(), user), "kinds", "show(List(x))")
        self.assertEqual([len(package) for package in found.program.packages()], [1, 1])
        self.assertEqual([len(package) for package in found.program["user"].seen()], [1, 1])

    def test_names_of_arguments(self):
        program = Program(Book(), kinds())
        self.assertIs(bool(addition(program=program, name="kinds", instance="show(Int)")), True)
        self.assertEqual(safe_additions(program=program, name="kinds", instances=["show(Int)"]), ["show(Int)"])
        self.assertEqual(program, Program(Book(), kinds()))


class ErrorsTest(unittest.TestCase):

    def test_names_and_instances(self):
        for words in [{}, {"look": "same"}, {"owner": "anybody"}]:
            for packages in [[kinds()], [kinds(), *[Package(letter) for letter in "abcdefg"]]]:
                program = Program(Book(**words), *packages)
                for name in NO_NAMES + ["", "show", "other", kinds(), Agreeing()]:
                    for instance in ["show(x)", None]:
                        self.assertEqual(raised(addition, program, name, instance), (UnknownName, {"name": name}))
                for instance in NO_INSTANCES:
                    self.assertEqual(raised(addition, program, "kinds", instance), (InvalidInstance, {"number": None}))

    def test_undecided_under_all_books(self):
        alone = {}
        for book in all_books():
            for text, many in [("show(Int)", 1), ("join(Int,Int)", 2), ("link(x,y,z)", 3)]:
                part = plain_undecided(book, many)
                found = raised(addition, Program(book, kinds()), "kinds", text)
                self.assertEqual(found, None if part is None else UNDECIDED[part], (book, text))
                alone[part] = alone.get(part, 0) + 1
        self.assertEqual(sorted([part for part in alone if part]), ["early", "look", "owner", "wants"])

    def test_eight_packages(self):
        packages = [kinds(), *[Package(letter) for letter in "abcdefg"]]
        for words in [{}, {"look": "ladder"}, {"owner": "anybody"}]:
            self.assertEqual(raised(addition, Program(Book(**words), *packages), "kinds", "show(No)"), UNDECIDED["packages"])
            self.assertNotEqual(raised(addition, Program(Book(**words), *packages[:7]), "kinds", "show(x)"),
                                UNDECIDED["packages"])

    def test_one_alone(self):
        rows = [({"look": "same"}, "show(Int)", "look"), ({"look": "nothing"}, "show(Int)", "look"),
                ({"owner": "anybody"}, "show(Int)", "owner"), ({"owner": "any"}, "join(Int,Int)", "owner"),
                ({"owner": "any", "wants": "ahead"}, "show(Int)", "wants"),
                ({"choose": "first", "wants": "ahead"}, "show(Int)", "wants"),
                ({"choose": "first", "early": "wait"}, "show(Int)", "early"),
                ({"choose": "first", "early": "once"}, "show(Int)", "early")]
        for words, text, part in rows:
            self.assertEqual(raised(addition, Program(Book(**words), kinds()), "kinds", text), UNDECIDED[part])

    def test_two_that_are_due_at_once(self):
        rows = [({"look": "same", "owner": "anybody"}, "look"), ({"look": "same", "choose": "first", "early": "once"}, "look"),
                ({"owner": "anybody", "choose": "first", "wants": "ahead"}, "owner"),
                ({"owner": "any", "wants": "ahead"}, "owner"), ({"owner": "any", "choose": "first", "early": "wait"}, "owner"),
                ({"choose": "first", "wants": "ahead", "early": "wait"}, "wants")]
        for words, part in rows:
            self.assertEqual(raised(addition, Program(Book(**words), kinds()), "kinds", "join(Int,Int)"), UNDECIDED[part])

    def test_undecided_ahead_of_the_errors_of_a_package(self):
        full = kinds(*[f"link(Int,{one},{other})" for one in ["Int", "Set", "List(x)"] for other in ["Int", "Set", "List(x)"]][:8])
        for words, part in [({"look": "same"}, "look"), ({"owner": "anybody"}, "owner"), ({"choose": "first", "wants": "ahead"}, "wants")]:
            for package, text in [(kinds(), "show(No)"), (kinds(), "no(x)"), (kinds(), "show(Int,Int)"), (full, "show(Int)")]:
                self.assertEqual(raised(addition, Program(Book(**words), package), "kinds", text), UNDECIDED[part])
        for words in DECIDED:
            program = Program(Book(**words), kinds())
            self.assertEqual(raised(addition, program, "kinds", "show(No)"), (NotSeen, {"name": "No"}))
            self.assertEqual(raised(addition, program, "kinds", "no(x)"), (NotSeen, {"name": "no"}))
            self.assertEqual(raised(addition, program, "kinds", "show(List)"), (WrongPlaces, {"name": "List"}))
            self.assertEqual(raised(addition, program, "kinds", "show(List(x)) if join(x)"), (WrongPlaces, {"name": "join"}))
            self.assertEqual(raised(addition, Program(Book(**words), full), "kinds", "show(Int)")[0], InvalidOwned)
            self.assertEqual(raised(addition, Program(Book(**words), full), "kinds", "link(x,y,z)")[0], InvalidOwned)


class SafeAdditionsTest(unittest.TestCase):

    def test_lists_and_tuples(self):
        program = Program(Book(), kinds("show(Int)"))
        told = ["show(Set)", "show(x)", Instance("show(List(x))"), "is(x)", "show(Set)", "show(List(List(y)))"]
        for values in [told, tuple(told)]:
            found = safe_additions(program, "kinds", values)
            self.assertEqual((type(found), len(found)), (list, 4))
            for one, other in zip(found, [told[0], told[2], told[4], told[5]]):
                self.assertIs(one, other)
        self.assertEqual(len(told), 6)

    def test_empty_ones(self):
        for words in [{}, {"look": "same"}, {"owner": "anybody"}]:
            for name in ["kinds", "other", None, []]:
                for values in [[], ()]:
                    self.assertEqual(safe_additions(Program(Book(**words), kinds()), name, values), [])

    def test_one_that_raises(self):
        program = Program(Book(), kinds())
        self.assertEqual(raised(safe_additions, program, "kinds", ["show(Set)", None]), (InvalidInstance, {"number": None}))
        self.assertEqual(raised(safe_additions, program, "kinds", ["show(Set)", "show(No)", None]), (NotSeen, {"name": "No"}))
        self.assertEqual(raised(safe_additions, program, "kinds", ("show(x)", "is(List)")), (WrongPlaces, {"name": "List"}))
        self.assertEqual(raised(safe_additions, program, "no", ["show(Set)"]), (UnknownName, {"name": "no"}))
        anyone = Program(Book(owner="any"), kinds())
        self.assertEqual(raised(safe_additions, anyone, "kinds", ["show(Set)", "join(Int,Int)"]), UNDECIDED["owner"])


class ByChanceTest(unittest.TestCase):
    """[3] (g): no program breaks by an addition that is told to be safe."""

    def answers(self, program, deep):
        """The dict from packages and questions to the answers, where there are some."""
        found = {}
        for package in program.packages():
            try:
                asked = questions(package, deep) + open_questions(package, deep)
            except TooMany:
                continue
            for question in asked:
                outcome = outcome_of(program.view(package.name), question)
                if outcome is not None and outcome[0] != "clash":
                    found[package.name, str(question)] = outcome
        return found

    def larger(self, maker, program):
        """A program with some packages more, that know nothing of the addition."""
        for name in maker.chance.sample(["v", "w", "q"], maker.chance.choice([1, 2])):
            use = maker.chance.choice(program.packages())
            try:
                program = program | maker.package(name, [use], 3)
            except SoleError:
                continue
        return program

    def test_by_chance(self):
        many = {"refused": 0, "met": 0, "safe": 0}
        books = [book for book in all_books() if plain_undecided(book, 1) is None]
        for number, book in enumerate(books * 4):
            maker = Maker(6000 + number, book, 2)
            program = maker.program(2, 3)
            for _ in range(4):
                name = maker.chance.choice(program.names())
                text = maker.instance(program[name])
                try:
                    found = addition(program, name, text)
                except SoleError:
                    continue
                many[found.word] += 1
                if found.word == "refused":
                    self.assertEqual(raised(program.with_instance, name, text)[0], Refused)
                if found.word == "met":
                    self.assertEqual(raised((program | found.user).with_instance, name, text)[0], Refused)
                if found.word == "safe":
                    larger = self.larger(maker, program)
                    behind = larger.with_instance(name, text)
                    answers = self.answers(behind, 1)
                    for key, answer in self.answers(larger, 1).items():
                        self.assertEqual(answers.get(key), answer, (book, key, text))
        self.assertGreater(min(many.values()), 30, many)

    def test_the_words(self):
        """Met is just what has an open place and is at most no other instance that the package sees."""
        for number, book in enumerate([book for book in all_books() if plain_undecided(book, 1) is None] * 3):
            maker = Maker(7000 + number, book, 2)
            program = maker.program(2, 4)
            name = maker.chance.choice(program.names())
            text = maker.instance(program[name])
            try:
                found = addition(program, name, text)
                head = found.instance.head
            except SoleError:
                continue
            if found.word != "refused":
                closed = [not place.is_variable for place in head.places()]
                is_open = not all(closed) if book.owner == "early" else not closed[0]
                below = any([head <= other.head for _, _, other in program[name].all_told()])
                self.assertEqual(found.word, "met" if is_open and not below else "safe")


class InterfaceTest(unittest.TestCase):

    def test_all_is_defined_here(self):
        for call in [addition, safe_additions, Addition]:
            self.assertEqual(call.__module__, module.__name__)
        for name in ["word", "program", "user", "cause", "instance"]:
            self.assertIsInstance(vars(Addition)[name], property)
        self.assertIn("__bool__", vars(Addition))


if __name__ == "__main__":
    unittest.main()
