"""Instances, promises [8] and [9]."""

import itertools
import unittest

from soleinstances.errors import InvalidHead, InvalidInstance
from soleinstances.heads import Head
from soleinstances.instances import Instance
from soleinstances.terms import Term
from tests.helping import NO_HEAD_TEXTS, NO_NAMES, Agreeing, raised, texts

NO_HEADS = NO_NAMES + NO_HEAD_TEXTS + [Term("x"), Agreeing()]
NO_TEXTS = [
    "", " ", "show", "x", "show(x) if", "show(List(x)) if ", "show(List(x)) if  show(x)", "show(List(x))  if show(x)",
    "show(List(x)) if show(x) ", " show(List(x)) if show(x)", "show(List(x)) if show(x)  show(x)", " if show(x)",
    "show(List(x)) if show(x),print(x)", "show(List(x)) if show(x) if print(x)", "show(List(x)) print(x)",
    "show(List(x)) if show(x) show(x)", "show(List(x)) if show(x) print(x) join(x)", "show(x) if print(x)",
    "show(List(x)) if show(y)", "show(List(x)) if show(Int)", "show(List(x))if show(x)", "show(List(x)) ifshow(x)",
    "show(List(x)) IF show(x)", "show(List(x)) if\nshow(x)", "show(List(x)) if show(x)\n", "show(List(x)) if if",
    "show(List(List(List(x))))", "show(Pair(Pair(x,y),Pair(Pair,z)),x,x)",
]
EIGHT = "link(Pair(Pair(x,y),Pair),x,Pair(y))"


class MakingTest(unittest.TestCase):

    def wrong(self, number, head, *wants):
        self.assertEqual(raised(Instance, head, *wants), (InvalidInstance, {"number": number}), (head, wants))

    def test_example(self):
        pairs = Instance("show(Pair(x,y))", "show(x)", "show(y)")
        self.assertEqual(texts(pairs.wanted("show(Pair(Int,List(Int)))")), ["show(Int)", "show(List(Int))"])
        self.wrong(0, "show(x)", "print(x)")

    def test_heads_and_texts(self):
        for parts in itertools.product(*[[text, Head.read(text)] for text in ["show(Pair(x,y))", "show(x)", "is(x,y)"]]):
            instance = Instance(*parts)
            self.assertEqual(str(instance), "show(Pair(x,y)) if show(x) is(x,y)")
        self.assertEqual(str(Instance(head="show(Int)")), "show(Int)")

    def test_no_heads(self):
        for head in NO_HEADS + ["show(List(x)) if show(x)"]:
            self.wrong(None, head)
            self.wrong(None, head, "show(")

    def test_heads_that_are_too_large(self):
        self.assertEqual(Head.read(EIGHT).size, 8)
        self.assertEqual(str(Instance(EIGHT)), EIGHT)
        self.wrong(None, "link(Pair(Pair(x,y),Pair),x,Pair(y,z))")
        self.wrong(None, Head.read("link(Pair(Pair(x,y),Pair),x,Pair(y,z))"))
        self.assertEqual(str(Instance("show(List(List(x)))")), "show(List(List(x)))")
        self.wrong(None, "show(List(List(List(x))))")
        self.wrong(None, "link(x,Int,List(List(List(x))))", "show(")
        self.wrong(None, Head.read("show(List(List(List(Int))))"))

    def test_wants_that_are_no_heads(self):
        for want in NO_HEADS:
            self.wrong(0, "show(List(x))", want)
            self.wrong(1, "show(Pair(x,y))", "show(x)", want)

    def test_terms_that_are_no_variables(self):
        for want in ["show(Int)", "show(List(x))", "is(x,Int)", "is(Int,x)", "show(Pair(x,y))", Head("show", "List")]:
            self.wrong(0, "show(Pair(List(x),y))", want)
            self.wrong(1, "show(Pair(List(x),y))", "show(y)", want)

    def test_variables_that_are_not_in_the_head(self):
        for want in ["show(z)", "is(x,z)", "is(z,x)"]:
            self.wrong(0, "show(Pair(x,y))", want)
            self.wrong(1, "show(Pair(x,y))", "show(x)", want)
        self.wrong(0, "show(Pair(Int,Int))", "show(x)")

    def test_a_variable_oftener_than_in_the_head(self):
        self.wrong(0, "show(Pair(x,y))", "is(x,x)")
        self.wrong(0, "join(Pair(x,Int),y)", "is(y,y)")
        self.wrong(0, "link(x,x,Pair(y,y))", "all(x,x,x)")
        self.assertEqual(len(Instance("link(x,x,Pair(y,y))", "all(x,x,y)", "all(y,y,x)").needs()), 2)
        self.assertEqual(str(Instance("join(x,List(x))", "is(x,x)")), "join(x,List(x)) if is(x,x)")

    def test_as_many_names_as_the_head(self):
        self.wrong(0, "show(x)", "show(x)")
        self.wrong(0, "join(x,y)", "join(y,x)")
        self.wrong(0, "link(x,x,y)", "all(x,y,x)")
        self.assertEqual(str(Instance("join(x,y)", "show(x)", "show(y)")), "join(x,y) if show(x) show(y)")

    def test_equal_wants(self):
        self.wrong(1, "show(Pair(x,y))", "show(x)", "show(x)")
        self.wrong(1, "show(Pair(x,y))", "show(x)", Head("show", "x"))
        self.assertEqual(len(Instance("show(Pair(x,y))", "is(x,y)", "is(y,x)").needs()), 2)

    def test_a_third_want(self):
        self.wrong(2, "show(Pair(x,y))", "show(x)", "show(y)", "print(x)")
        self.wrong(2, "show(Pair(x,y))", "show(x)", "show(y)", "print(")
        self.wrong(2, "show(Pair(x,y))", "show(x)", "show(y)", "show(z)", "show(x)")

    def test_the_first_want_that_cannot_stand(self):
        self.wrong(0, "show(Pair(x,y))", "show(z)", "show(z)", "show(x)")
        self.wrong(1, "show(Pair(x,y))", "show(x)", "show(Int)", "show(x)")
        self.wrong(None, "show(", "show(z)")

    def test_all_wants_of_some_heads(self):
        heads = ["join(x,y)", "show(Pair(x,x))", "join(x,Pair(x,y))", "show(Int)", "link(x,y,x)"]
        places = ["x", "y", "z", "Int", "List(x)"]
        for text, many in itertools.product(heads, [1, 2, 3]):
            head = Head.read(text)
            names = [part for part in text.replace("(", ",").replace(")", ",").split(",")[1:] if part]
            for row in itertools.product(places, repeat=many):
                small = len(row) < head.size and all([len(name) == 1 for name in row])
                may = small and all([row.count(name) <= names.count(name) for name in row])
                expected = None if may else (InvalidInstance, {"number": 0})
                self.assertEqual(raised(Instance, head, Head("all", *row)), expected, (text, row))


class LookingTest(unittest.TestCase):

    def test_head_and_needs(self):
        instance = Instance("join(List(x),y)", "show(y)", "join(x,y)")
        self.assertEqual(instance.head, Head.read("join(List(x),y)"))
        self.assertEqual(instance.needs(), [Head.read("show(y)"), Head.read("join(x,y)")])
        self.assertEqual([type(head) for head in [instance.head, *instance.needs()]], [Head] * 3)
        self.assertEqual(Instance("show(Int)").needs(), [])
        instance.needs().clear()
        self.assertEqual(len(instance.needs()), 2)

    def test_wanted(self):
        instance = Instance("join(List(x),y)", "show(y)", "is(y,x)")
        rows = [
            ("join(List(Int),Int)", ["show(Int)", "is(Int,Int)"]),
            ("join(List(y),x)", ["show(x)", "is(x,y)"]),
            ("join(List(List(z)),Pair(z,Int))", ["show(Pair(z,Int))", "is(Pair(z,Int),List(z))"]),
            ("join(x,y)", None),
            ("join(Int,Int)", None),
            ("join(List(Int))", None),
            ("show(List(Int))", None),
            ("join(List(Int),Int,Int)", None),
        ]
        for question, wants in rows:
            for value in [question, Head.read(question)]:
                found = instance.wanted(value)
                self.assertEqual(None if found is None else texts(found), wants, question)
        self.assertEqual(Instance("show(Int)").wanted("show(Int)"), [])
        self.assertEqual(texts(Instance("show(Pair(x,x))", "show(x)").wanted("show(Pair(y,y))")), ["show(y)"])
        self.assertIsNone(Instance("show(Pair(x,x))", "show(x)").wanted("show(Pair(y,z))"))
        self.assertIs(type(instance.wanted("join(List(Int),Int)")[0]), Head)

    def test_wanted_of_large_questions(self):
        part = "Pair(" * 12 + "x" + ",Int)" * 12
        found = Instance("show(Pair(x,y))", "show(x)", "is(y,x)").wanted(f"show(Pair({part},{part}))")
        self.assertEqual(texts(found), [f"show({part})", f"is({part},{part})"])

    def test_wanted_of_other_values(self):
        for value in NO_HEADS:
            self.assertEqual(raised(Instance("show(x)").wanted, value), (InvalidHead, {"value": value}))
        self.assertEqual(texts(Instance("show(x)").wanted(question="show(x)")), [])

    def test_equal_if_the_texts_are(self):
        rows = ["show(List(x)) if show(x)", "show(List(y)) if show(y)", "show(List(x))", "show(x)",
                "show(Pair(x,y)) if show(x) show(y)", "show(Pair(x,y)) if show(y) show(x)"]
        for one, other in itertools.product(rows, rows):
            self.assertIs(Instance.read(one) == Instance.read(other), one == other)
            self.assertIs(Instance.read(one) != Instance.read(other), one != other)
        for value in NO_NAMES + rows + [Head("show", "x")]:
            self.assertIs(Instance("show(x)") == value, False)

    def test_is_alike(self):
        alike = [
            ("show(List(x)) if show(x)", "show(List(y)) if show(y)", True),
            ("show(Pair(x,y)) if show(x) show(y)", "show(Pair(y,x)) if show(y) show(x)", True),
            ("show(Pair(x,y)) if show(x) show(y)", "show(Pair(x,y)) if show(y) show(x)", False),
            ("show(Pair(x,y)) if show(x)", "show(Pair(a,b)) if show(b)", False),
            ("show(Pair(x,y)) if show(x)", "show(Pair(x,y))", False),
            ("show(Pair(x,y)) if show(x)", "show(Pair(x,y)) if print(x)", False),
            ("show(Pair(x,x))", "show(Pair(x,y))", False),
            ("show(List(x))", "print(List(x))", False),
            ("show(List(x))", "show(x)", False),
            ("join(x,y) if show(x)", "join(y,z) if show(y)", True),
            ("show(Int)", "show(Int)", True),
        ]
        for one, other, expected in alike:
            for left, right in [(one, other), (other, one)]:
                self.assertIs(Instance.read(left).is_alike(right), expected)
                self.assertIs(Instance.read(left).is_alike(Instance.read(right)), expected)

    def test_is_alike_of_other_values(self):
        for value in NO_NAMES + NO_TEXTS + [Head("show", "x"), Term("x"), Agreeing()]:
            self.assertEqual(raised(Instance("show(x)").is_alike, value), (InvalidInstance, {"number": None}))
        self.assertIs(Instance("show(x)").is_alike(other="show(y)"), True)


class ReadingTest(unittest.TestCase):

    def test_read_as_written(self):
        rows = ["show(x)", "show(List(x)) if show(x)", "join(List(x),y) if show(y) join(x,y)", EIGHT,
                "if(List(x)) if if(x)"]
        for text in rows:
            self.assertEqual(str(Instance.read(text)), text)
            self.assertIs(type(Instance.read(text=text)), Instance)
        self.assertEqual(Instance.read(rows[2]), Instance("join(List(x),y)", "show(y)", "join(x,y)"))

    def test_other_values(self):
        for value in NO_NAMES + NO_TEXTS + [Instance("show(x)"), Head("show", "x"), Agreeing()]:
            self.assertEqual(raised(Instance.read, value), (InvalidInstance, {"number": None}), str(value))


class InterfaceTest(unittest.TestCase):

    def test_all_is_defined_in_the_class(self):
        for name in ["head", "needs", "wanted", "read", "is_alike", "__str__", "__eq__"]:
            self.assertIn(name, vars(Instance))
        self.assertIsInstance(vars(Instance)["head"], property)
        self.assertIsInstance(vars(Instance)["read"], staticmethod)
        self.assertEqual(Instance.__module__, "soleinstances.instances")


if __name__ == "__main__":
    unittest.main()
