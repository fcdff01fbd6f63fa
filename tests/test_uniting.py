"""Common terms and being at most another one, promise [6], and [3] (a) as far as it speaks of terms."""

import itertools
import string
import unittest

from soleinstances.errors import InvalidTerm
from soleinstances.terms import Term
from soleinstances.uniting import common, fits, is_at_most
from tests.helping import NO_NAMES, raised, term_texts

SMALL = [Term.read(text) for names in range(5) for text in term_texts(names)]
LARGER = SMALL + [Term.read(text) for text in term_texts(5)]

NO_TERMS = [value for value in NO_NAMES if not isinstance(value, list)]
NO_TERMS = NO_TERMS + ["", "List(", "x y", "Pair(x,y,z)", "x(y)", "x,y", "Int ", ("x", "y")]
NO_LISTS = [["x", 1], ["x("], [None], [["x"]], [Term("x"), ["x"]], [("x",)], ["x", "x,y"]]


def shown(value):
    """The text of a term, or the texts of a list of them; None for None."""
    if isinstance(value, list):
        return [str(term) for term in value]
    return None if value is None else str(value)


def letters():
    """The names a, b, .. z, aa, ab, .."""
    for length in itertools.count(1):
        for word in itertools.product(string.ascii_lowercase, repeat=length):
            yield "".join(word)


def plain_common(ones, others):
    """The texts of the common terms of two lists, found by putting for one variable after another; None for none."""
    pairs = [(ones[at].put(apart(ones, "left")), others[at].put(apart(others, "right"))) for at in range(len(ones))]
    wanted = [one for one, _ in pairs]
    while pairs:
        one, other = pairs.pop()
        if one == other:
            continue
        if other.is_variable:
            one, other = other, one
        if one.is_variable:
            if one.top in other:
                return None
            exchange = {one.top: other}
            wanted = [term.put(exchange) for term in wanted]
            pairs = [(left.put(exchange), right.put(exchange)) for left, right in pairs]
        elif (one.top, len(one.parts())) != (other.top, len(other.parts())):
            return None
        else:
            pairs.extend(zip(one.parts(), other.parts()))
    found = list(dict.fromkeys([name for term in wanted for name in term.variables()]))
    return [str(term.put(dict(zip(found, letters())))) for term in wanted]


def apart(terms, side):
    """The dict that makes the variables of a list of terms unlike those of the other side."""
    names = list(dict.fromkeys([name for term in terms for name in term.variables()]))
    return {name: side[0] + name for name in names}


def plain_fits(one, other):
    """The dict of texts of what is put for the variables of other to get one, or None."""
    if other.is_variable:
        return {other.top: str(one)}
    if (one.top, len(one.parts())) != (other.top, len(other.parts())):
        return None
    found = {}
    for left, right in zip(one.parts(), other.parts()):
        part = plain_fits(left, right)
        if part is None or [name for name in part if found.get(name, part[name]) != part[name]]:
            return None
        found.update(part)
    return found


class CommonTest(unittest.TestCase):

    def common(self, one, other):
        found = shown(common(one, other))
        self.assertEqual(shown(common(other, one)), found)
        return found

    def test_examples(self):
        found = [str(Term.read("Pair(x,Int)") & "Pair(List(y),x)"), Term.read("Pair(x,x)") & "Pair(y,List(y))"]
        self.assertEqual(found, ["Pair(List(a),Int)", None])

    def test_variables_and_constructors(self):
        self.assertEqual(self.common("x", "x"), "a")
        self.assertEqual(self.common("x", "y"), "a")
        self.assertEqual(self.common("x", "Int"), "Int")
        self.assertEqual(self.common("x", "Pair(y,x)"), "Pair(a,b)")
        self.assertEqual(self.common("Int", "Int"), "Int")
        self.assertIsNone(self.common("Int", "Set"))
        self.assertIsNone(self.common("List", "List(x)"))
        self.assertIsNone(self.common("List(x)", "List(x,x)"))
        self.assertIsNone(self.common("Pair(Int,x)", "Pair(Set,x)"))

    def test_the_same_names_are_unlike_variables(self):
        self.assertEqual(self.common("x", "List(x)"), "List(a)")
        self.assertEqual(self.common("Pair(x,Int)", "Pair(Set,x)"), "Pair(Set,Int)")
        self.assertEqual(self.common("Pair(x,y)", "Pair(y,x)"), "Pair(a,b)")
        self.assertEqual(self.common("Pair(x,y)", "Pair(List(y),List(x))"), "Pair(List(a),List(b))")

    def test_a_variable_that_stands_more_than_once(self):
        self.assertEqual(self.common("Pair(x,x)", "Pair(y,z)"), "Pair(a,a)")
        self.assertEqual(self.common("Pair(x,x)", "Pair(Int,y)"), "Pair(Int,Int)")
        self.assertIsNone(self.common("Pair(x,x)", "Pair(Int,Set)"))
        self.assertEqual(self.common("Pair(x,x)", "Pair(List(y),List(Int))"), "Pair(List(Int),List(Int))")
        self.assertEqual(self.common("Pair(Pair(x,y),Pair(y,x))", "Pair(z,z)"), "Pair(Pair(a,a),Pair(a,a))")

    def test_no_variable_becomes_a_larger_term_in_which_it_stands(self):
        self.assertIsNone(self.common("Pair(x,x)", "Pair(y,List(y))"))
        self.assertIsNone(self.common("Pair(x,List(x))", "Pair(y,y)"))
        self.assertIsNone(self.common("Pair(Pair(x,y),Pair(List(y),List(x)))", "Pair(z,z)"))
        self.assertIsNone(self.common("Pair(Pair(x,y),Pair(x,y))", "Pair(Pair(z,List(w)),Pair(w,z))"))
        self.assertEqual(self.common("Pair(x,x)", "Pair(y,y)"), "Pair(a,a)")

    def test_names_behind_z(self):
        names = list(itertools.islice(letters(), 740))
        self.assertEqual(names[25:28] + names[51:53] + names[700:703], ["z", "aa", "ab", "az", "ba", "zy", "zz", "aaa"])
        lists = [f"List({name})" for name in names]
        self.assertEqual(self.common([f"List({name})" for name in reversed(names)], names), lists)
        one, other = "Int", "Int"
        for name in reversed(names[:30]):
            one, other = f"Pair({name},{one})", f"Pair(x{name},{other})"
        self.assertEqual(self.common(one, other), one)

    def test_names_in_the_order_in_which_they_stand(self):
        self.assertEqual(self.common("Pair(c,Pair(b,a))", "Pair(a,x)"), "Pair(a,Pair(b,c))")
        self.assertEqual(self.common("Pair(z,Pair(List(y),z))", "Pair(List(x),y)"), "Pair(List(a),Pair(List(b),List(a)))")

    def test_lists(self):
        self.assertEqual(self.common([], []), [])
        self.assertEqual(self.common(["x"], ["List(x)"]), ["List(a)"])
        self.assertEqual(self.common(["x", "x"], ["y", "Int"]), ["Int", "Int"])
        self.assertEqual(self.common(["x", "y"], ["y", "x"]), ["a", "b"])
        self.assertEqual(self.common(["y", "x", "y"], ["x", Term.read("List(x)"), "z"]), ["a", "List(a)", "a"])
        self.assertIsNone(self.common(["x", "x"], ["Int", "Set"]))
        self.assertIsNone(self.common(["x", "x"], ["y", "List(y)"]))
        self.assertIsNone(self.common(["Int", "Set", "x"], ["Int", "Int", "Int"]))

    def test_kinds_of_values(self):
        self.assertIs(type(common("x", "Int")), Term)
        found = common(["x", "y"], ["Int", Term("x")])
        self.assertIs(type(found), list)
        self.assertEqual(found, [Term("Int"), Term("a")])
        self.assertEqual(common(one=Term("x"), other="Int"), Term("Int"))

    def test_what_is_handed_in_stays(self):
        one, other = ["x", Term("x")], ["List(y)", "z"]
        found = common(one, other)
        found.append(1)
        fits(other, ["u", "v"]).clear()
        self.assertEqual((one, other), (["x", Term("x")], ["List(y)", "z"]))
        same = ["x"]
        self.assertIsNot(common(same, same), same)

    def test_pairs_of_small_terms(self):
        for one, other in itertools.product(LARGER, SMALL):
            plain = plain_common([one], [other])
            self.assertEqual(shown(common(one, other)), plain and plain[0], (str(one), str(other)))
            self.assertEqual(shown(common([one], [other])), plain, (str(one), str(other)))
            self.assertEqual(shown(one & other), plain and plain[0])
            self.assertEqual(shown(other & one), plain and plain[0])

    def test_lists_of_small_terms(self):
        few = [Term.read(text) for names in range(4) for text in term_texts(names)]
        pairs = list(itertools.product(few, few))
        for one in pairs[::2]:
            for other in pairs:
                found = shown(common(list(one), list(other)))
                self.assertEqual(found, plain_common(one, other), (shown(list(one)), shown(list(other))))

    def test_most_general(self):
        for one, other in itertools.product(SMALL[::2], SMALL):
            found = common(one, other)
            both = [term for term in LARGER if is_at_most(term, one) and is_at_most(term, other)]
            if found is None:
                self.assertEqual(both, [])
                continue
            self.assertTrue(is_at_most(found, one) and is_at_most(found, other))
            for term in both:
                self.assertTrue(is_at_most(term, found), (str(one), str(other), str(term)))

    def test_long_lists(self):
        names = list(itertools.islice(letters(), 600))
        found = common([*names, *names], [*[f"List({name})" for name in names[1:]], "Int", *names])
        self.assertEqual(found[:600], found[600:])
        self.assertEqual(str(found[0]), "List(" * 599 + "Int" + ")" * 599)
        self.assertEqual([str(term) for term in found[598:600]], ["List(Int)", "Int"])

    def test_few_steps_where_terms_would_be_large(self):
        names = list(itertools.islice(letters(), 60))
        one = [*names, *names[:-1]]
        other = [*[f"Pair({name},{name})" for name in names], *names[1:]]
        self.assertIsNone(common([*one, names[-1]], [*other, "Int"]))
        self.assertIsNone(common([*one, f"List({names[-1]})"], [*other, names[0]]))


class AtMostTest(unittest.TestCase):

    def fits(self, one, other):
        found = fits(one, other)
        self.assertIs(is_at_most(one, other), found is not None)
        return found and {name: str(term) for name, term in found.items()}

    def test_terms(self):
        self.assertEqual(self.fits("List(Int)", "List(x)"), {"x": "Int"})
        self.assertEqual(self.fits("Pair(List(x),y)", "Pair(y,x)"), {"y": "List(x)", "x": "y"})
        self.assertEqual(self.fits("x", "x"), {"x": "x"})
        self.assertEqual(self.fits("List(x)", "x"), {"x": "List(x)"})
        self.assertEqual(self.fits("Pair(Int,Int)", "Pair(x,x)"), {"x": "Int"})
        self.assertEqual(fits("Int", "Int"), {})

    def test_not_at_most(self):
        rows = [("x", "Int"), ("List(x)", "List(Int)"), ("Pair(x,y)", "Pair(z,z)"), ("Int", "Set"), ("List", "List(x)")]
        for one, other in rows + [("List(x)", "List"), ("Pair(x,List(x))", "Pair(y,y)"), ("List(x)", "List(List(x))")]:
            self.assertIsNone(fits(one, other))
            self.assertIs(is_at_most(one, other), False)

    def test_lists(self):
        self.assertEqual(fits([], []), {})
        self.assertIs(is_at_most([], []), True)
        self.assertEqual(self.fits(["Int", "List(y)"], ["x", "List(z)"]), {"x": "Int", "z": "y"})
        self.assertEqual(self.fits(["Int", "Int"], ["x", "x"]), {"x": "Int"})
        self.assertIsNone(self.fits(["x", "y"], ["x", "x"]))
        self.assertIsNone(self.fits(["Int", "Set"], ["x", "x"]))
        self.assertEqual(self.fits(["Pair(x,y)", "x"], ["y", "x"]), {"y": "Pair(x,y)", "x": "x"})
        self.assertEqual(self.fits(["List(x)", Term("Int")], [Term.read("List(List)"), "Int"]), None)

    def test_kinds_of_values(self):
        found = fits(one=Term.read("Pair(x,Int)"), other=Term.read("Pair(y,x)"))
        self.assertIs(type(found), dict)
        self.assertEqual(found, {"y": Term("x"), "x": Term("Int")})
        self.assertEqual(list(found), ["y", "x"])
        self.assertIs(is_at_most(one="Int", other="x"), True)

    def test_pairs_of_small_terms(self):
        for one, other in itertools.product(LARGER, SMALL):
            for left, right in [(one, other), (other, one)]:
                plain = plain_fits(left, right)
                self.assertEqual(self.fits(left, right), plain, (str(left), str(right)))
                self.assertEqual(self.fits([left], [right]), plain)
                if plain is not None:
                    self.assertEqual(right.put(fits(left, right)), left)

    def test_closed_terms_of_the_common_one(self):
        closed = [term for term in LARGER if term.is_closed]
        for one, other in itertools.product(SMALL, SMALL):
            found = common(one, other)
            for term in closed:
                both = is_at_most(term, one) and is_at_most(term, other)
                self.assertIs(both, found is not None and is_at_most(term, found))


class WrongValuesTest(unittest.TestCase):

    def test_the_first_wrong_argument(self):
        for call in [common, is_at_most, fits]:
            for value in NO_TERMS + NO_LISTS:
                wrong = (InvalidTerm, {"value": value})
                for other in ["x", Term("x"), ["x"], [], ["x", "y"]]:
                    self.assertEqual(raised(call, value, other), wrong)
                    self.assertEqual(raised(call, other, value), wrong)
                for other in NO_TERMS + NO_LISTS:
                    self.assertEqual(raised(call, value, other), wrong)

    def test_a_list_beside_a_term_and_unlike_lengths(self):
        rows = [("x", ["x"]), (["x"], "x"), (Term("x"), []), ([], Term("x")), (["x"], []), (["x"], ["x", "y"])]
        for call in [common, is_at_most, fits]:
            for one, other in rows + [([], ["Int"]), (["Int", "x"], ["Set"])]:
                self.assertEqual(raised(call, one, other), (InvalidTerm, {"value": other}))


class SignsTest(unittest.TestCase):

    def test_examples(self):
        found = ["List(Int)" <= Term.read("List(x)"), Term.read("x") < "y", Term.read("Pair(x,x)") < "Pair(x,y)"]
        self.assertEqual(found, [True, False, True])

    def test_all_signs_of_small_terms(self):
        for one, other in itertools.product(SMALL[::2], SMALL):
            at_most, at_least = is_at_most(one, other), is_at_most(other, one)
            for left, right in [(one, other), (one, str(other)), (str(one), other)]:
                self.assertIs(left <= right, at_most)
                self.assertIs(left >= right, at_least)
                self.assertIs(left < right, at_most and not at_least)
                self.assertIs(left > right, at_least and not at_most)
                self.assertEqual(left & right, common(one, other))

    def test_texts_on_the_left(self):
        term = Term.read("Pair(x,List(y))")
        self.assertEqual(str("Pair(Int,x)" & term), "Pair(Int,List(a))")
        self.assertIsNone("Pair(x,Int)" & term)
        self.assertIs("Pair(Int,List(x))" < term, True)
        self.assertIs("Pair(x,y)" > term, True)
        self.assertIs("Pair(y,List(x))" >= term, True)
        self.assertIs("Pair(y,List(x))" > term, False)
        self.assertIs("Pair(y,List(x))" < term, False)
        self.assertIs("Int" <= term, False)

    def test_texts_that_are_none(self):
        term = Term("x")
        for text in ["", "List(", "x y", "Pair(x,y,z)", "x(y)", "x,y", "Int\n", "show(x) if"]:
            calls = [lambda: term & text, lambda: text & term, lambda: term <= text, lambda: text <= term]
            calls += [lambda: term < text, lambda: text < term, lambda: term >= text, lambda: text >= term]
            for call in calls + [lambda: term > text, lambda: text > term]:
                self.assertEqual(raised(call), (InvalidTerm, {"value": text}))

    def test_values_of_other_kinds(self):
        term = Term("x")
        for value in [None, 5, ["x"]]:
            calls = [lambda: term & value, lambda: value & term, lambda: term <= value, lambda: value <= term]
            calls += [lambda: term < value, lambda: value < term]
            for call in calls:
                self.assertRaises(TypeError, call)

    def test_the_terms_stay(self):
        one, other = Term.read("Pair(x,Int)"), Term.read("Pair(List(y),x)")
        found = one
        found &= other
        self.assertEqual([str(one), str(other), str(found)], ["Pair(x,Int)", "Pair(List(y),x)", "Pair(List(a),Int)"])


class InterfaceTest(unittest.TestCase):

    def test_all_is_defined_here(self):
        for call in [common, is_at_most, fits]:
            self.assertEqual(call.__module__, "soleinstances.uniting")


if __name__ == "__main__":
    unittest.main()
