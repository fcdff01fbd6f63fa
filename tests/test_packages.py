"""Packages, promise [10]."""

import copy
import itertools
import unittest

from soleinstances.errors import (InvalidHead, InvalidName, InvalidOwned, InvalidTold, InvalidUse, NameTaken, NoInstance,
                                  NotSeen, UnknownName, WrongPlaces)
from soleinstances.heads import Head
from soleinstances.instances import Instance
from soleinstances.packages import Package
from soleinstances.terms import Term
from tests.helping import NO_HEAD_TEXTS, NO_INDEXES, NO_NAMES, Agreeing, Odd, base, lists, more, raised, texts

NO_PACKAGES = NO_NAMES + ["base", Head("show", "x"), Term("x"), Agreeing()]
CONSTRUCTORS = {"Int": 0, "List": 1, "Pair": 2}
TASKS = {"show": 1, "join": 2, "link": 3}


def chain(many):
    """Packages of which each uses the one ahead of it."""
    found = []
    for letter in "abcdefghijkl"[:many]:
        found.append(Package(letter, *found[-1:]))
    return found


def names(packages):
    return [package.name for package in packages]


class NamesAndUsesTest(unittest.TestCase):

    def test_example(self):
        told = [(name, number, str(instance)) for name, number, instance in lists().all_told()]
        self.assertEqual(told, [("base", 0, "show(Int)"), ("lists", 0, "show(List(x)) if show(x)")])

    def test_invalid_name(self):
        for name in NO_NAMES + ["", "Base", "a b", "abcdefghi", "base\n", Term("x")]:
            wrong = (InvalidName, {"value": name})
            self.assertEqual(raised(Package, name), wrong)
            self.assertEqual(raised(Package, name, 5, constructors=5, tasks=5, instances=5), wrong)

    def test_uses_that_are_no_packages(self):
        for value in NO_PACKAGES:
            self.assertEqual(raised(Package, "a", value), (InvalidUse, {"number": 0}))
            self.assertEqual(raised(Package, "a", base(), value, value), (InvalidUse, {"number": 1}))
            self.assertEqual(raised(Package, "a", value, constructors=5), (InvalidUse, {"number": 0}))

    def test_uses_with_its_own_name_and_that_of_an_earlier_one(self):
        self.assertEqual(raised(Package, "base", base()), (InvalidUse, {"number": 0}))
        self.assertEqual(raised(Package, "base", lists(), base()), (InvalidUse, {"number": 1}))
        self.assertEqual(raised(Package, "a", base(), base()), (InvalidUse, {"number": 1}))
        one = base()
        self.assertEqual(raised(Package, "a", one, lists(), one), (InvalidUse, {"number": 2}))
        self.assertEqual(raised(Package, "a", base(), Package("base")), (InvalidUse, {"number": 1}))

    def test_four_uses_and_five(self):
        five = [Package(letter) for letter in "abcde"]
        self.assertEqual(names(Package("x", *five[:4]).uses()), list("abcd"))
        self.assertEqual(raised(Package, "x", *five), (InvalidUse, {"number": 4}))
        self.assertEqual(raised(Package, "x", *five[:4], 7), (InvalidUse, {"number": 4}))
        self.assertEqual(raised(Package, "x", *five[:2], 7, *five), (InvalidUse, {"number": 2}))

    def test_eight_seen_and_nine(self):
        eight = chain(8)
        self.assertEqual(names(eight[7].seen()), list("abcdefgh"))
        self.assertEqual(raised(Package, "i", eight[7]), (InvalidUse, {"number": None}))
        others = [Package(letter, Package(letter * 2)) for letter in "xyz"]
        self.assertEqual(len(Package("w", Package("v"), *others).seen()), 8)
        wide = [Package(letter, Package(letter * 2)) for letter in "vxyz"]
        self.assertEqual(raised(Package, "w", *wide), (InvalidUse, {"number": None}))
        self.assertEqual(raised(Package, "w", *wide, constructors=5), (InvalidUse, {"number": None}))

    def test_a_package_that_is_seen_by_two_ways(self):
        left, right = Package("left", base()), Package("right", base())
        both = Package("both", left, right, instances=["show(Int)"])
        self.assertEqual(names(both.seen()), ["base", "left", "right", "both"])
        self.assertEqual([entry[:2] for entry in both.all_told()], [("base", 0), ("both", 0)])

    def test_the_order_of_seen(self):
        a, b = Package("a"), Package("b")
        c, d = Package("c", b, a), Package("d", a, b)
        self.assertEqual(names(Package("e", c, d).seen()), ["b", "a", "c", "d", "e"])
        self.assertEqual(names(Package("e", d, c).seen()), ["a", "b", "d", "c", "e"])
        self.assertEqual(names(Package("e", b, d, c).seen()), ["b", "a", "d", "c", "e"])
        self.assertEqual(names(Package("e", c, d).uses()), ["c", "d"])
        self.assertEqual(names(a.seen()), ["a"])


class TakenNamesTest(unittest.TestCase):

    def taken(self, name, *args, **more):
        self.assertEqual(raised(Package, *args, **more), (NameTaken, {"name": name}))

    def test_unlike_packages_of_one_name(self):
        left, right = Package("left", base()), Package("right", Package("base"))
        self.taken("base", "both", left, right)
        self.taken("base", "both", base(), right)
        self.taken("base", "both", left, right, constructors=5)

    def test_its_own_name(self):
        self.taken("base", "base", lists())
        self.taken("base", "base", lists(), constructors=5)
        self.taken("base", "base", Package("other"), more())

    def test_constructors_and_tasks_in_two_packages_that_know_nothing_of_one_another(self):
        one = Package("one", constructors={"Int": 0, "Set": 1}, tasks={"show": 1, "join": 2})
        for kinds, tasks, name in [({"Set": 1}, {}, "Set"), ({"Set": 0, "Int": 0}, {}, "Set"), ({}, {"join": 1}, "join"),
                                   ({}, {"join": 1, "show": 1}, "join"), ({"Int": 0}, {"show": 1}, "Int")]:
            self.taken(name, "both", one, Package("two", constructors=kinds, tasks=tasks))
            self.taken(name, "both", Package("left", one), Package("right", Package("two", constructors=kinds, tasks=tasks)))

    def test_the_first_one_in_order(self):
        one = Package("one", constructors={"Int": 0}, tasks={"show": 1})
        two = Package("two", tasks={"show": 1})
        three = Package("three", Package("one"), constructors={"Int": 0})
        self.taken("show", "both", one, two, three)
        self.taken("one", "both", one, three, two)
        self.taken("Int", "both", one, Package("four", constructors={"Int": 0}, tasks={"show": 1}), two)
        self.taken("show", "two", one, Package("four", two))
        self.taken("four", "four", one, Package("five", Package("four")), constructors={"Int": 0})

    def test_names_ahead_of_too_many(self):
        self.taken("e", "z", chain(8)[7], Package("x", Package("e")))
        self.taken("a", "a", chain(8)[7])

    def test_one_name_of_a_package_a_task_and_a_variable(self):
        package = Package("show", Package("join", tasks={"show": 1}), tasks={"join": 1, "x": 1}, instances=["x(x)"])
        self.assertEqual([package.owner_of("show"), package.owner_of("join")], ["join", "show"])

    def test_owned_names_that_a_used_or_seen_package_owns(self):
        for uses in [[base()], [lists()], [more()]]:
            self.taken("Int", "a", *uses, constructors={"Set": 0, "Int": 0}, tasks={"show": 1})
            self.taken("show", "a", *uses, constructors={"Set": 0}, tasks={"join": 1, "show": 2})
            self.taken("show", "a", *uses, tasks={"join": 1, "show": 2}, instances=[5])
        self.taken("List", "a", lists(), constructors={"List": 1, "Int": 0})
        self.taken("Int", "a", lists(), constructors={"Int": 0, "List": 1})

    def test_owned_names_behind_invalid_ones(self):
        told = [(["Int"], {}, ()), ({"Int": 0}, [], ()), ({"Int": 0}, {}, 5)]
        for constructors, tasks, instances in told:
            error = raised(Package, "a", base(), constructors=constructors, tasks=tasks, instances=instances)
            self.assertEqual(error[0], InvalidOwned)


class OwnedTest(unittest.TestCase):

    def wrong(self, value, **owned):
        self.assertEqual(raised(Package, "a", **owned), (InvalidOwned, {"value": value}))

    def test_what_is_owned(self):
        package = Package("a", constructors=CONSTRUCTORS, tasks=TASKS)
        self.assertEqual(list(package.constructors().items()), list(CONSTRUCTORS.items()))
        self.assertEqual(list(package.tasks().items()), list(TASKS.items()))
        for nothing in [Package("a"), Package("a", constructors=None, tasks=None), Package("a", constructors={}, tasks={})]:
            self.assertEqual((nothing.constructors(), nothing.tasks(), nothing.instances()), ({}, {}, []))

    def test_values_of_other_kinds(self):
        for value in NO_NAMES[1:] + ["Int", [("Int", 0)], (), [], {"Int"}]:
            if not isinstance(value, dict):
                self.wrong(value, constructors=value)
                self.wrong(value, tasks=value)
            if not isinstance(value, (list, tuple)):
                self.wrong(value, instances=value)
        self.wrong(None, instances=None)
        self.wrong("show(Int)", instances="show(Int)")

    def test_dicts_of_other_kinds(self):
        for key in ["int", "", "INT", "Abcdefghi", "List(x)", 0, None, ("Int",), b"Int"]:
            self.wrong({"Int": 0, key: 0}, constructors={"Int": 0, key: 0})
        for key in ["Show", "", "sHow", "abcdefghi", "show(x)", 0, None, ("show",), b"show"]:
            self.wrong({"show": 1, key: 1}, tasks={"show": 1, key: 1})
        for many in [-1, 3, True, False, None, "0", 1.0, [0], Odd(), Agreeing()]:
            self.wrong({"Int": 0, "List": many}, constructors={"Int": 0, "List": many})
        for many in [-1, 0, 4, True, False, None, "1", 1.0, [1], Odd(), Agreeing()]:
            self.wrong({"join": 2, "show": many}, tasks={"join": 2, "show": many})

    def test_as_many_as_may_be_and_one_more(self):
        kinds = {f"Kind{letter}": 0 for letter in "abcdefg"}
        tasks = {f"task{letter}": 1 for letter in "abcde"}
        told = [f"taska(Kind{letter})" for letter in "abcdef"] + ["taskb(x)", "taskc(x)", "taskd(x)"]
        six, four = dict(list(kinds.items())[:6]), dict(list(tasks.items())[:4])
        self.assertEqual(len(Package("a", constructors=six, tasks=four, instances=told[:8])), 8)
        self.assertEqual(len(Package("a", constructors=six, tasks=four, instances=tuple(told[:8]))), 8)
        self.wrong(kinds, constructors=kinds)
        self.wrong(tasks, tasks=tasks)
        self.wrong(told, constructors=six, tasks=four, instances=told)
        self.wrong(tuple(told), instances=tuple(told))

    def test_their_order(self):
        self.wrong(5, constructors=5, tasks=6, instances=7)
        self.wrong(6, tasks=6, instances=7)
        self.wrong(7, constructors={"Int": 0}, instances=7)
        self.wrong([5] * 9, instances=[5] * 9)


class ToldTest(unittest.TestCase):

    def error(self, *told, uses=()):
        return raised(Package, "a", *uses, constructors=CONSTRUCTORS, tasks=TASKS, instances=list(told))

    def test_texts_and_instances(self):
        told = ["show(List(x)) if show(x)", Instance("show(Int)"), "join(x,y) if show(y)"]
        package = Package("a", constructors=CONSTRUCTORS, tasks=TASKS, instances=told)
        self.assertEqual(texts(package.instances()), texts(told))
        self.assertEqual([type(instance) for instance in package.instances()], [Instance] * 3)
        self.assertEqual(package[1], told[1])

    def test_values_that_are_none(self):
        for value in NO_NAMES + NO_HEAD_TEXTS + ["show(x) if show(x)", Head("show", "x"), Agreeing()]:
            self.assertEqual(self.error("show(Int)", value, "show(No)"), (InvalidTold, {"number": 1}))

    def test_names_that_are_not_seen(self):
        for told, name in [("no(Int)", "no"), ("no(No)", "no"), ("show(No)", "No"), ("join(Int,List(No))", "No"),
                           ("join(Ab,Aa)", "Ab"), ("show(Pair(x,y)) if no(x)", "no"), ("show(No(x)) if no(x)", "No"),
                           ("show(Pair(x,y)) if show(x) no(y)", "no"), ("show(Pair(x,y)) if nob(x) noa(y)", "nob")]:
            self.assertEqual(self.error("show(Int)", told, 5), (NotSeen, {"name": name}), told)

    def test_names_with_other_numbers_of_places(self):
        for told, name in [("show(x,y)", "show"), ("join(x)", "join"), ("show(Int(x))", "Int"), ("show(List)", "List"),
                           ("show(List(x,y))", "List"), ("show(Pair(x,y)) if join(x)", "join"),
                           ("show(Pair(x,y)) if show(x) link(y)", "link"), ("show(Pair(Int,Int(x)))", "Int"),
                           ("join(List)", "join"), ("show(Pair(List,Int(x)))", "List")]:
            self.assertEqual(self.error("show(Int)", told, 5), (WrongPlaces, {"name": name}), told)

    def test_the_first_wrong_name(self):
        self.assertEqual(self.error("show(List(No))"), (NotSeen, {"name": "No"}))
        self.assertEqual(self.error("show(Pair(Int(x),No))"), (WrongPlaces, {"name": "Int"}))
        self.assertEqual(self.error("show(Pair(No,Int(x)))"), (NotSeen, {"name": "No"}))
        self.assertEqual(self.error("show(No)", "no(Int)"), (NotSeen, {"name": "No"}))

    def test_names_of_packages_that_are_seen(self):
        package = Package("a", more(), instances=["show(List(List(Int)))"])
        self.assertEqual(len(package), 1)
        self.assertEqual(raised(Package, "a", base(), instances=["show(List(x))"]), (NotSeen, {"name": "List"}))


class LookingTest(unittest.TestCase):

    def test_names(self):
        package = more()
        self.assertEqual(vars(package)["name"], "more")
        self.assertEqual(names(package.uses()), ["lists"])
        for name in ["base", "lists", "more"]:
            self.assertIs(package.sees(name), True)
        for name in NO_NAMES + ["show", "Int", "mor", "", Agreeing(), base()]:
            self.assertIs(package.sees(name), False)
        self.assertIs(base().sees("lists"), False)

    def test_instances_and_numbers(self):
        package = Package("a", base(), constructors={"Set": 1}, instances=["show(Set(x))", "show(Set(Int))"])
        self.assertEqual([str(package[0]), str(package[1]), len(package)], ["show(Set(x))", "show(Set(Int))", 2])
        for number in NO_INDEXES + [2, 3]:
            self.assertEqual(raised(lambda: package[number]), (NoInstance, {"number": number}))
        self.assertEqual(raised(lambda: Package("a")[0]), (NoInstance, {"number": 0}))

    def test_what_it_has(self):
        package = more()
        for text in ["show(Int)", "show(List(x)) if show(x)", "show(List(Int))"]:
            self.assertIs(text in package, True)
            self.assertIs(Instance.read(text) in package, True)
        self.assertIs("show(List(Int))" in lists(), False)
        others = ["show(List(y)) if show(y)", "show(x)", "show", "base", Head("show", "Int"), Instance("show(List(x))")]
        for value in NO_NAMES + others + [Agreeing(), base()]:
            self.assertIs(value in package, False)

    def test_owners_and_places(self):
        package = more()
        rows = [("Int", "base", 0), ("show", "base", 1), ("List", "lists", 1)]
        for name, owner, many in rows:
            self.assertEqual((package.owner_of(name), package.places_of(name)), (owner, many))
        for name in NO_NAMES + ["base", "Set", "join", "", "show(x)", Agreeing()]:
            self.assertEqual(raised(package.owner_of, name), (NotSeen, {"name": name}))
            self.assertEqual(raised(package.places_of, name), (NotSeen, {"name": name}))
        self.assertEqual(raised(base().owner_of, "List"), (NotSeen, {"name": "List"}))

    def test_all_told(self):
        left = Package("left", base(), constructors={"Set": 1}, instances=["show(Set(x))", "show(Set(Int))"])
        both = Package("both", left, lists(), instances=["show(List(Set(x)))"])
        self.assertEqual([(name, number, str(instance)) for name, number, instance in both.all_told()], [
            ("base", 0, "show(Int)"), ("left", 0, "show(Set(x))"), ("left", 1, "show(Set(Int))"),
            ("lists", 0, "show(List(x)) if show(x)"), ("both", 0, "show(List(Set(x)))")])
        self.assertIs(type(next(iter(both.all_told()))), tuple)
        self.assertEqual(list(Package("a").all_told()), [])

    def test_check(self):
        package = lists()
        for text in ["show(Int)", "show(x)", "show(List(List(x)))"]:
            self.assertEqual(package.check(text), Head.read(text))
            self.assertEqual(package.check(head=Head.read(text)), Head.read(text))
            self.assertIs(type(package.check(text)), Head)
        for value in NO_NAMES + NO_HEAD_TEXTS + [Term("x"), Instance("show(x)")]:
            self.assertEqual(raised(package.check, value), (InvalidHead, {"value": value}))
        for text, name in [("no(No)", "no"), ("show(No)", "No"), ("show(List(No))", "No")]:
            self.assertEqual(raised(package.check, text), (NotSeen, {"name": name}))
        for text, name in [("show(x,No)", "show"), ("show(Int(No))", "Int"), ("show(List(List))", "List")]:
            self.assertEqual(raised(package.check, text), (WrongPlaces, {"name": name}))
        self.assertEqual(raised(base().check, "show(List(x))"), (NotSeen, {"name": "List"}))


class WithInstanceTest(unittest.TestCase):

    def test_one_more(self):
        package = lists()
        found = package.with_instance("show(List(Int))")
        self.assertEqual(texts(found.instances()), ["show(List(x)) if show(x)", "show(List(Int))"])
        self.assertEqual(texts(package.instances()), ["show(List(x)) if show(x)"])
        self.assertEqual((found.name, found.constructors(), found.tasks()), ("lists", {"List": 1}, {}))
        self.assertEqual(found.uses(), package.uses())
        self.assertEqual(found, package.with_instance(instance=Instance("show(List(Int))")))

    def test_errors(self):
        package = lists()
        for value in [5, None, "show", Head("show", "x")]:
            self.assertEqual(raised(package.with_instance, value), (InvalidTold, {"number": 1}))
        self.assertEqual(raised(package.with_instance, "no(x)"), (NotSeen, {"name": "no"}))
        self.assertEqual(raised(package.with_instance, "show(x,y)"), (WrongPlaces, {"name": "show"}))
        full = Package("a", base(), instances=["show(Int)"] * 8)
        self.assertEqual(raised(full.with_instance, "show(x)")[0], InvalidOwned)
        self.assertEqual(raised(full.with_instance, 5)[0], InvalidOwned)


class UsingTest(unittest.TestCase):

    def test_a_used_package(self):
        new = base().with_instance("show(x)")
        package = lists().using(new)
        self.assertEqual(package, Package("lists", new, constructors={"List": 1}, instances=["show(List(x)) if show(x)"]))
        self.assertEqual(package.uses(), [new])

    def test_a_package_that_is_seen_deep(self):
        new = base().with_instance("show(x)")
        top = Package("top", more(), Package("left", base()), instances=["show(Int)"])
        found = top.using(package=new)
        self.assertEqual(names(found.seen()), names(top.seen()))
        self.assertEqual([len(seen) for seen in found.seen()], [2, 1, 1, 0, 1])
        self.assertEqual(found.seen()[0], new)
        self.assertEqual(found.seen()[1], lists().using(new))
        self.assertEqual([len(seen) for seen in top.seen()], [1, 1, 1, 0, 1])

    def test_a_used_package_that_others_see_too(self):
        new = base().with_instance("show(x)")
        top = Package("top", Package("z"), base(), lists())
        self.assertEqual(top.using(new), Package("top", Package("z"), new, lists().using(new)))
        self.assertEqual(len(list(top.using(new).all_told())), 3)

    def test_unknown_names(self):
        for package in [Package("other"), Package("more"), more(), Package("list")]:
            self.assertEqual(raised(more().using, package), (UnknownName, {"name": package.name}))
        self.assertEqual(raised(base().using, lists()), (UnknownName, {"name": "lists"}))

    def test_errors_of_the_class(self):
        self.assertEqual(raised(lists().using, Package("base")), (NotSeen, {"name": "show"}))
        self.assertEqual(raised(lists().using, Package("base", constructors={"List": 0})), (NameTaken, {"name": "List"}))
        self.assertEqual(raised(lists().using, Package("base", Package("lists"))), (NameTaken, {"name": "lists"}))


class EqualTest(unittest.TestCase):

    def test_made_twice(self):
        self.assertEqual(more(), more())
        self.assertIs(more() == more(), True)
        self.assertIs(more() != more(), False)
        self.assertEqual(names(Package("top", more(), Package("left", lists())).seen()),
                         ["base", "lists", "more", "left", "top"])

    def test_one_part_unlike(self):
        def made(name="a", uses=(Package("x"), Package("y")), kinds=(("A", 0), ("B", 1)), tasks=(("s", 1), ("t", 1)),
                 told=("s(A)", "t(x)")):
            return Package(name, *uses, constructors=dict(kinds), tasks=dict(tasks), instances=told)

        found = [
            made(), made(name="b"), made(uses=()), made(uses=(Package("y"), Package("x"))), made(uses=(Package("x"),)),
            made(uses=(Package("x"), Package("y", Package("z")))), made(kinds=(("B", 1), ("A", 0))),
            made(kinds=(("A", 0), ("B", 2))), made(kinds=(("A", 0),)), made(tasks=(("t", 1), ("s", 1))),
            made(tasks=(("s", 1), ("t", 1), ("u", 1))), made(told=("t(x)", "s(A)")), made(told=("s(A)",)),
            made(told=("s(A)", "t(y)")), made(told=("s(A)", "t(x)", "t(x)")), made(uses=(Package("x", Package("y")),)),
        ]
        for at, one in enumerate(found):
            for index, other in enumerate(found):
                self.assertIs(one == other, at == index)
                self.assertIs(one != other, at != index)

    def test_a_seen_package_unlike(self):
        one = Package("c", Package("b", Package("a")))
        self.assertNotEqual(one, Package("c", Package("b", Package("a", tasks={"show": 1}))))
        self.assertEqual(one, Package("c", Package("b", Package("a"))))

    def test_other_values(self):
        for value in NO_NAMES + ["base", Head("show", "x")]:
            self.assertIs(base() == value, False)


class NothingChangesTest(unittest.TestCase):

    def test_what_was_handed_in(self):
        kinds, tasks, told = {"Int": 0}, {"show": 1}, ["show(Int)"]
        package = Package("a", constructors=kinds, tasks=tasks, instances=told)
        kinds["Set"], tasks["join"], kinds["Int"] = 1, 2, 2
        told.append("join(x,y)")
        self.assertEqual((package.constructors(), package.tasks(), len(package)), ({"Int": 0}, {"show": 1}, 1))
        self.assertEqual(package, Package("a", constructors={"Int": 0}, tasks={"show": 1}, instances=["show(Int)"]))
        self.assertEqual(told, ["show(Int)", "join(x,y)"])

    def test_what_is_returned(self):
        package = Package("more", lists(), constructors={"Set": 0}, tasks={"is": 1}, instances=["show(Set)"])
        for call in [package.uses, package.seen, package.constructors, package.tasks, package.instances]:
            before = copy.copy(call())
            call().clear()
            self.assertEqual(call(), before)
        package.constructors()["Own"] = 0
        package.tasks().update(join=1)
        package.seen()[0].constructors().clear()
        package.seen().append(5)
        self.assertEqual((package.constructors(), package.tasks()), ({"Set": 0}, {"is": 1}))
        self.assertEqual(package.seen()[:2], [base(), lists()])
        self.assertEqual(package.with_instance("is(Int)").tasks(), {"is": 1})

    def test_names_and_arguments(self):
        told = Package("a", instances=[], tasks=None, constructors=None)
        self.assertEqual(told, Package("a"))
        self.assertRaises(TypeError, Package, "a", base(), named=5)


class InterfaceTest(unittest.TestCase):

    def test_all_is_defined_in_the_class(self):
        found = ["uses", "seen", "sees", "constructors", "tasks", "instances", "owner_of", "places_of", "all_told",
                 "check", "with_instance", "using"]
        signs = ["getitem", "len", "contains", "eq"]
        for name in found + [f"__{sign}__" for sign in signs]:
            self.assertIn(name, vars(Package))
        self.assertEqual(Package.__module__, "soleinstances.packages")

    def test_no_two_errors_but_the_first(self):
        """Each two errors that can be due at once: the one that is named first is raised."""
        causes = [
            (InvalidName, {"name": "A"}),
            (InvalidUse, {"uses": [5]}),
            (NameTaken, {"uses": [base(), Package("right", Package("base"))]}),
            (InvalidUse, {"uses": [chain(8)[7]]}),
            (InvalidOwned, {"constructors": 5}),
            (InvalidOwned, {"tasks": 5}),
            (InvalidOwned, {"instances": 5}),
            (NameTaken, {"uses": [Package("own", constructors={"Own": 0})], "constructors": {"Own": 0}}),
            (InvalidTold, {"instances": [5]}),
            (NotSeen, {"instances": ["no(x)"]}),
        ]
        for (error, one), (_, other) in itertools.combinations(causes, 2):
            told = {"name": "it", "uses": [], **other, **one}
            if one.keys() & other.keys() == set():
                name, uses = told.pop("name"), told.pop("uses")
                self.assertEqual(raised(Package, name, *uses, **told)[0], error, (one, other))


if __name__ == "__main__":
    unittest.main()
