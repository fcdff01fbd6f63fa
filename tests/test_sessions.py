"""Sessions, promise [16] with [3] (i)."""

import unittest

from soleinstances import sessions as module
from soleinstances.books import Book
from soleinstances.errors import (BadCommand, Clash, DeedFailed, InvalidBook, InvalidProgram, InvalidQuestion, InvalidTold,
                                  Meets, NameTaken, NothingToUndo, NotOwner, NotSeen, Refused, SoleError, UnknownName)
from soleinstances.instances import Instance
from soleinstances.packages import Package
from soleinstances.programs import Program
from soleinstances.sessions import Session
from tests.helping import NO_NAMES, Agreeing, Odd, base, lists, more, raised
from tests.making import Maker

NO_BOOKS = NO_NAMES + [base(), ("early", "apart"), Agreeing()]
NO_PACKAGES = NO_NAMES + ["base", Book(), Agreeing()]
NO_DEEDS = NO_NAMES + [
    "undo", "add", (), ["undo"], ["add", base()], ("undo", None), ("undo", "undo"), ("add",), ("add", base(), base()),
    ("tell",), ("tell", "base"), ("tell", "base", "show(x)", None), ("book",), ("book", Book(), 1), ("Undo",), ("undo ",),
    ("",), (None,), (5, 5), (["add"], base()), (b"undo",), (Agreeing(),), (Agreeing(), base()), (Odd(), base()), Agreeing(),
    ("set_book", Book()), ("ask", "base", "show(Int)"), ("do", ("undo",)), (("undo",),),
]


def third():
    """A package that is let behind lists."""
    return Package("third", lists(), constructors={"Set": 1}, instances=["show(Set(x)) if show(x)"])


def orphan():
    """A package that is not let, in any program, unless anybody may tell an instance."""
    return Package("orphan", Package("parent", tasks={"own": 1}), instances=["own(x)"])


def state(session):
    """All that can be seen of a session."""
    return (session.program, session.book, len(session))


def behind_undos(session):
    """The programs of a session, the present one first, each one behind one more undo."""
    found = [session.program]
    while len(session) > 0:
        session.undo()
        found.append(session.program)
    return found


class MakingTest(unittest.TestCase):

    def test_a_new_session(self):
        for book in [Book(), Book.ladder()]:
            session = Session(book=book)
            self.assertEqual(state(session), (Program(book), book, 0))
            self.assertEqual((type(session.program), type(session.book)), (Program, Book))

    def test_no_book(self):
        for value in NO_BOOKS:
            self.assertEqual(raised(Session, value), (InvalidBook, {"part": None}))

    def test_books_are_not_kept(self):
        book = Book()
        session = Session(book)
        book.look = "same"
        session.book.early = "once"
        session.program.book.early = "once"
        self.assertEqual(session.book, Book())
        session.set_book(book)
        book.look = "nothing"
        session.do(("book", book))
        book.choose = "first"
        self.assertEqual([session.book.words()[:3], len(session)], [("early", "nothing", "sole"), 2])
        session.undo()
        self.assertEqual(session.book, Book(look="same"))

    def test_example(self):
        session = Session(Book())
        session.add(lists())
        self.assertEqual([len(session), session.program.names(), session.ask("lists", "show(List(Int))")],
                         [1, ["base", "lists"], ("lists", 0, (("base", 0, ()),))])
        self.assertEqual(session.tried(len, Package("third", lists(), constructors={"Set": 1})), 2)


class ChangingTest(unittest.TestCase):

    def fails(self, session, expected, call, *args, **more):
        """The call raises this error, and the session is as it was."""
        before = state(session)
        found = raised(call, *args, **more)
        self.assertIs(found[0], expected[0])
        if expected[1] is not None:
            self.assertEqual(found[1], expected[1])
        self.assertEqual(state(session), before)

    def test_add(self):
        session = Session(Book())
        self.assertIsNone(session.add(package=lists()))
        self.assertEqual((session.program, len(session)), (Program(Book(), lists()), 1))
        session.add(Package("z"))
        self.assertEqual((session.program.names(), len(session)), (["base", "lists", "z"], 2))
        session.add(base())
        self.assertEqual((session.program.names(), len(session)), (["base", "lists", "z"], 3))

    def test_add_that_fails(self):
        session = Session(Book())
        session.add(lists())
        for value in NO_PACKAGES:
            self.fails(session, (InvalidProgram, {"number": 0}), session.add, value)
            self.fails(session, (InvalidProgram, {"number": 0}), session.__iadd__, value)
        self.fails(session, (NameTaken, {"name": "base"}), session.add, Package("base"))
        self.fails(session, (Refused, None), session.add, more())
        for letter in "abcdef":
            session.add(Package(letter))
        self.fails(session, (InvalidProgram, {"number": None}), session.add, Package("g"))
        self.assertEqual(len(session), 7)

    def test_add_in_place(self):
        session = first = Session(Book())
        session += lists()
        session += Package("z")
        self.assertIs(session, first)
        self.assertEqual((session.program.names(), len(session)), (["base", "lists", "z"], 2))

    def test_tell(self):
        session = Session(Book())
        session.add(third())
        session.set_book(Book(choose="first"))
        self.assertIsNone(session.tell(name="base", instance="show(Int)"))
        expected = Program(Book(choose="first"), third()).with_instance("base", "show(Int)")
        self.assertEqual((session.program, len(session)), (expected, 3))
        session.tell("third", Instance("show(Set(x))"))
        self.assertEqual((session.program, len(session)), (expected.with_instance("third", "show(Set(x))"), 4))

    def test_tell_that_fails(self):
        session = Session(Book())
        session.add(lists())
        for name in NO_NAMES + ["", "no", base(), Agreeing()]:
            self.fails(session, (UnknownName, {"name": name}), session.tell, name, None)
        for value in NO_NAMES + ["", "show(x) if show(x)", Agreeing()]:
            self.fails(session, (InvalidTold, {"number": 1}), session.tell, "base", value)
        self.fails(session, (NotSeen, {"name": "List"}), session.tell, "base", "show(List(x))")
        self.fails(session, (Refused, None), session.tell, "base", "show(x)")
        self.fails(session, (Refused, None), session.tell, "lists", "show(Int)")

    def test_the_book_set(self):
        session = Session(Book())
        session.add(lists())
        session.book = Book.ladder()
        self.assertEqual(state(session), (Program(Book.ladder(), lists()), Book.ladder(), 2))
        self.assertIsNone(session.set_book(book=Book(owner="anybody", look="nothing")))
        self.assertEqual(len(session), 3)
        session.add(more())
        session.set_book(session.book)
        self.assertEqual((session.program.names(), len(session)), (["base", "lists", "more"], 5))

    def test_a_book_that_cannot_be_set(self):
        session = Session(Book(owner="anybody", look="nothing"))
        session.add(more())
        for value in NO_BOOKS:
            self.fails(session, (InvalidBook, {"part": None}), session.set_book, value)
            self.fails(session, (InvalidBook, {"part": None}), setattr, session, "book", value)
        for book in [Book(), Book.orphans()]:
            self.fails(session, (Refused, None), session.set_book, book)
            self.fails(session, (Refused, None), setattr, session, "book", book)

    def test_ask(self):
        session = Session(Book())
        session.add(lists())
        self.assertEqual(session.ask(name="lists", question="show(List(x))", told=["show(List(x))"]), ("", 0, ()))
        self.assertIsNone(session.ask("lists", "show(x)"))
        for args, error in [(("no", 5), UnknownName), (("base", 5), InvalidQuestion), (("base", "show(Int)", 5), InvalidTold),
                            (("base", "show(List(x))"), NotSeen)]:
            self.fails(session, (error, None), session.ask, *args)
        session = Session(Book(owner="anybody", look="nothing"))
        session.add(more())
        self.fails(session, (Clash, None), session.ask, "more", "show(List(Int))")

    def test_properties_that_cannot_be_set(self):
        session = Session(Book())
        self.assertRaises(AttributeError, setattr, session, "program", Program(Book()))


class UndoTest(unittest.TestCase):

    def test_all_changes_and_one_more(self):
        session = Session(Book())
        states = [state(session)]
        for call, args in [(session.add, [lists()]), (session.set_book, [Book.ladder()]), (session.tell, ["base", "show(x)"]),
                           (session.add, [Package("z")]), (session.add, [Package("z")]), (session.set_book, [Book.ladder()]),
                           (session.tell, ["lists", "show(List(List(x)))"])]:
            call(*args)
            states.append(state(session))
        self.assertEqual([entry[2] for entry in states], list(range(8)))
        for expected in states[-2::-1]:
            self.assertIsNone(session.undo())
            self.assertEqual(state(session), expected)
        for _ in range(2):
            self.assertEqual(raised(session.undo), (NothingToUndo, {}))
        self.assertEqual(state(session), states[0])

    def test_changes_behind_an_undo(self):
        session = Session(Book())
        session.add(base())
        session.add(lists())
        session.undo()
        session.add(Package("z", base()))
        self.assertEqual((session.program.names(), len(session)), (["base", "z"], 2))
        session.undo()
        self.assertEqual((session.program, len(session)), (Program(Book(), base()), 1))

    def test_what_raised_is_no_change(self):
        session = Session(Book())
        session.add(base())
        for call in [lambda: session.add(more()), lambda: session.tell("base", "show(x)"), lambda: session.set_book(None)]:
            self.assertIsNotNone(raised(call))
        session.undo()
        self.assertEqual(state(session), (Program(Book()), Book(), 0))

    def test_programs_that_were_returned_do_not_change(self):
        session = Session(Book())
        session.add(base())
        program = session.program
        session.add(lists())
        session.undo()
        session.undo()
        self.assertEqual(program, Program(Book(), base()))


class DoTest(unittest.TestCase):

    def session(self):
        session = Session(Book())
        session.add(base())
        session.set_book(Book.ladder())
        return session

    def test_deeds_in_order(self):
        session, other = self.session(), self.session()
        self.assertIsNone(session.do(("add", lists()), ("tell", "base", "show(x)"), ("book", Book(look="nothing")), ("undo",),
                                     ("add", Package("z")), ("undo",), ("undo",)))
        other.add(lists())
        self.assertEqual(state(session), state(other))
        session.do()
        self.assertEqual(behind_undos(session), behind_undos(other))

    def test_an_undo_of_what_was_ahead(self):
        session = self.session()
        session.do(("undo",), ("undo",), ("add", lists()))
        self.assertEqual(state(session), (Program(Book(), lists()), Book(), 1))
        self.assertEqual(behind_undos(session)[1], Program(Book()))

    def fails(self, session, index, reason, *deeds):
        """The deeds fail at an index with this reason, and all is as it was, what can be taken back, too."""
        before = state(session)
        error, found = raised(session.do, *deeds)
        self.assertIs(error, DeedFailed)
        self.assertEqual(found["number"], index)
        self.assertEqual((type(found["reason"]), vars(found["reason"])), reason)
        self.assertEqual(state(session), before)

    def test_a_deed_that_fails_at_each_place(self):
        fine = [("add", lists()), ("book", Book(choose="first")), ("tell", "base", "show(Int)"), ("undo",), ("add", Package("z"))]
        for at in range(len(fine) + 1):
            for deed, reason in [
                    (("add", None), (InvalidProgram, {"number": 0})), (("add", Package("base")), (NameTaken, {"name": "base"})),
                    (("tell", "no", None), (UnknownName, {"name": "no"})), (("tell", "base", 5), (InvalidTold, None)),
                    (("tell", "base", "show(No)"), (NotSeen, {"name": "No"})), (("book", "plain"), (InvalidBook, {"part": None})),
                    (("add", orphan()), (Refused, None)), (("tell", "base", "no(x)"), (NotSeen, {"name": "no"}))]:
                session = self.session()
                session.undo()
                deeds = [*fine[:at], deed, *fine[at:]]
                if reason[1] is None:
                    self.assertIs(type(raised(session.do, *deeds)[1]["reason"]), reason[0])
                else:
                    self.fails(session, at, reason, *deeds)
                self.assertEqual(behind_undos(session), [Program(Book(), base()), Program(Book())])

    def test_the_reason_of_a_refusal(self):
        session = Session(Book())
        found = raised(session.do, ("add", lists()), ("add", more()))[1]
        self.assertEqual(found["number"], 1)
        refused = found["reason"]
        self.assertEqual((refused.package, refused.number, type(refused.reason), refused.reason.task), ("more", 0, NotOwner, "show"))
        found = raised(session.do, ("add", base()), ("tell", "base", "show(x)"))[1]["reason"].reason
        self.assertEqual((type(found), vars(found)), (Meets, {"package": "base", "number": 0}))

    def test_undo_with_nothing_left(self):
        session = self.session()
        self.fails(session, 2, (NothingToUndo, {}), ("undo",), ("undo",), ("undo",), ("add", lists()))
        self.fails(Session(Book()), 0, (NothingToUndo, {}), ("undo",))
        self.fails(session, 4, (NothingToUndo, {}), ("undo",), ("add", base()), ("undo",), ("undo",), ("undo",))
        self.assertEqual([program.book for program in behind_undos(session)], [Book.ladder(), Book(), Book()])

    def test_values_that_are_no_deed(self):
        session = self.session()
        for value in NO_DEEDS:
            for deeds in [[value], [("add", lists()), value], [("undo",), value, ("undo",)]]:
                index = 0 if len(deeds) == 1 else 1
                error, found = raised(session.do, *deeds)
                self.assertEqual((error, found["number"], type(found["reason"])), (DeedFailed, index, BadCommand))
                self.assertIs(found["reason"].line, value)
                self.assertIsNone(found["reason"].reason)
                self.assertEqual(len(session), 2)
        self.assertEqual(behind_undos(session), [Program(Book.ladder(), base()), Program(Book(), base()), Program(Book())])

    def test_the_first_one_that_fails(self):
        session = self.session()
        self.fails(session, 0, (InvalidProgram, {"number": 0}), ("add", 5), "no deed")
        error, found = raised(session.do, ("add", lists()), (), ("add", 5))
        self.assertEqual((found["number"], type(found["reason"])), (1, BadCommand))

    def test_what_is_a_deed_is_told_by_kind_first_word_and_length_alone(self):
        session = self.session()
        self.fails(session, 0, (InvalidProgram, {"number": 0}), ("add", "base"))
        self.fails(session, 0, (UnknownName, {"name": None}), ("tell", None, None))
        self.fails(session, 0, (InvalidBook, {"part": None}), ("book", None))


class TryingTest(unittest.TestCase):

    def session(self):
        session = Session(Book())
        session.add(base())
        session.add(lists())
        session.set_book(Book.ladder())
        return session

    def as_it_was(self, session):
        """Nothing is left of what was tried."""
        expected = [Program(Book.ladder(), lists()), Program(Book(), lists()), Program(Book(), base()), Program(Book())]
        self.assertEqual(len(session), 3)
        self.assertEqual(behind_undos(session), expected)

    def test_the_block(self):
        session = self.session()
        with session.trying(third(), Package("z")) as given:
            self.assertIs(given, session)
            self.assertEqual((session.program.names(), len(session)), (["base", "lists", "third", "z"], 5))
            self.assertIsNotNone(session.ask("third", "show(Set(Int))"))
        self.as_it_was(session)

    def test_without_packages(self):
        session = self.session()
        with session.trying():
            self.assertEqual(len(session), 3)
            session.undo()
        self.as_it_was(session)

    def test_nothing_happens_ahead_of_the_block(self):
        session = self.session()
        block = session.trying(Package("z"))
        self.assertEqual(len(session), 3)
        session.add(Package("y"))
        with block:
            self.assertEqual(session.program.names(), ["base", "lists", "y", "z"])
        self.assertEqual((session.program.names(), len(session)), (["base", "lists", "y"], 4))

    def test_all_that_a_block_changes(self):
        def undone(session):
            while len(session) > 0:
                session.undo()

        calls = [lambda session: session.add(Package("y")), lambda session: session.tell("z", "all(x)"), undone,
                 lambda session: session.set_book(Book(look="nothing")), lambda session: setattr(session, "book", Book()),
                 lambda session: session.do(("undo",), ("undo",), ("undo",), ("add", Package("y"))),
                 lambda session: session.__iadd__(Package("y")), lambda session: (undone(session), session.add(Package("base")))]
        for call in calls:
            session = self.session()
            with session.trying(Package("z", tasks={"all": 1})) as given:
                call(given)
            self.as_it_was(session)
            session = self.session()
            session.tried(call, Package("z", tasks={"all": 1}))
            self.as_it_was(session)

    def test_blocks_that_are_left_by_an_error(self):
        def failing(session):
            session.add(Package("y"))
            raise KeyError("left")

        for packages in [[], [third()]]:
            session = self.session()
            with self.assertRaises(KeyError):
                with session.trying(*packages) as given:
                    failing(given)
            self.as_it_was(session)
            session = self.session()
            self.assertEqual(raised(session.tried, failing, *packages)[0], KeyError)
            self.as_it_was(session)
        session = self.session()
        self.assertEqual(raised(session.tried, lambda given: given.ask("base", 5))[0], InvalidQuestion)
        self.as_it_was(session)

    def test_leaving_a_block_in_other_ways(self):
        session = self.session()
        for _ in range(3):
            with session.trying(third()):
                continue

        def returning():
            with session.trying(third()) as given:
                return len(given)

        self.assertEqual(returning(), 4)
        self.as_it_was(session)

    def test_packages_that_are_refused(self):
        rows = [([more()], Refused, None), ([Package("z"), more()], Refused, None), ([Package("base")], NameTaken, {"name": "base"}),
                ([Package(letter) for letter in "abcdefg"], InvalidProgram, {"number": None}),
                ([Package("base"), 5], NameTaken, {"name": "base"})]
        for value in NO_PACKAGES:
            rows.extend([([value], InvalidProgram, {"number": 0}), ([Package("z"), third(), value], InvalidProgram, {"number": 2})])
        rows.append(([5, Package("base")], InvalidProgram, {"number": 0}))
        for packages, error, expected in rows:
            for call in [lambda session: session.tried(len, *packages), lambda session: session.trying(*packages).__enter__()]:
                session = self.session()
                found = raised(call, session)
                self.assertIs(found[0], error)
                if expected is not None:
                    self.assertEqual(found[1], expected)
                self.as_it_was(session)

    def test_the_call_is_not_made_if_a_package_is_refused(self):
        called = []
        session = self.session()
        self.assertIsNotNone(raised(session.tried, called.append, Package("z"), more()))
        self.assertEqual(called, [])

    def test_tried(self):
        session = self.session()
        self.assertEqual(session.tried(len), 3)
        self.assertEqual(session.tried(lambda given: given.program.names(), third(), Package("z")),
                         ["base", "lists", "third", "z"])
        self.assertIs(session.tried(lambda given: given), session)
        self.assertIsNone(session.tried(lambda given: None))
        self.as_it_was(session)

    def test_tries_within_one_another(self):
        session = self.session()

        def inner(given):
            given.undo()
            with given.trying(Package("y")):
                given.add(Package("x"))
                names = given.tried(lambda other: other.program.names(), Package("w"))
                given.undo()
            return [names, given.program.names(), len(given)]

        self.assertEqual(session.tried(inner, Package("z"), third()),
                         [["base", "lists", "z", "y", "x", "w"], ["base", "lists", "z"], 4])
        self.as_it_was(session)
        session = self.session()
        with session.trying(Package("z")):
            self.assertEqual(raised(session.tried, len, more())[0], Refused)
            self.assertEqual(session.program.names(), ["base", "lists", "z"])
            self.assertEqual(raised(session.do, ("undo",), ("undo",), ("add", 5))[0], DeedFailed)
            self.assertEqual(len(session), 4)
        self.as_it_was(session)

    def test_do_within_a_try_and_a_try_behind_do(self):
        session = self.session()
        with session.trying(third()):
            self.assertIsNone(session.do(("undo",), ("add", Package("z"))))
        session.do(("undo",), ("book", Book.ladder()))
        self.as_it_was(session)


class ByChanceTest(unittest.TestCase):
    """[3] (i): a session is held against a plain list of the programs that it had."""

    def deeds(self, maker, session):
        """Some deeds, many of which fail."""
        names = session.program.names() + ["no"]
        choices = [("undo",), ("book", maker.any_book()), ("tell", maker.chance.choice(names), "show(Int)"),
                   ("add", maker.package(maker.chance.choice("abcd"), [], 2)), ("add", base()), ("add", lists()), ("add", third()),
                   ("tell", "lists", "show(List(List(x)))"), ("tell", "base", "show(x)"), ("add", None), ("no",)]
        return [maker.chance.choice(choices) for _ in range(maker.chance.randint(1, 3))]

    def behind(self, states, deed):
        """The list of the programs behind a deed."""
        if deed[0] == "undo":
            return states[:-1]
        if deed[0] == "add":
            return [*states, Program(states[-1].book, *states[-1].packages(), deed[1])]
        if deed[0] == "tell":
            return [*states, states[-1].with_instance(*deed[1:])]
        return [*states, Program(deed[1], *states[-1].packages())]

    def test_by_chance(self):
        many = {True: 0, False: 0}
        for number in range(60):
            maker = Maker(8000 + number)
            session, states = Session(Book()), [Program(Book())]
            for _ in range(20):
                deeds = self.deeds(maker, session)
                expected = list(states)
                try:
                    for deed in deeds:
                        if deed == ("no",) or (deed == ("undo",) and len(expected) == 1):
                            raise SoleError()
                        expected = self.behind(expected, deed)
                except SoleError:
                    expected = None
                failed = raised(session.do, *deeds) is not None
                self.assertIs(failed, expected is None)
                many[failed] += 1
                states = states if failed else expected
                self.assertEqual((session.program, len(session)), (states[-1], len(states) - 1))
                self.assertEqual(session.tried(behind_undos, Package("zz")) if len(session.program) < 8 else None,
                                 None if len(session.program) > 7 else [session.program | Package("zz"), *states[::-1]])
        self.assertGreater(min(many.values()), 100, many)


class InterfaceTest(unittest.TestCase):

    def test_all_is_defined_in_the_class(self):
        for name in ["set_book", "add", "tell", "ask", "undo", "do", "trying", "tried", "__iadd__", "__len__", "__init__"]:
            self.assertIn(name, vars(Session))
        for name in ["program", "book"]:
            self.assertIsInstance(vars(Session)[name], property)
        self.assertEqual(Session.__module__, module.__name__)


if __name__ == "__main__":
    unittest.main()
