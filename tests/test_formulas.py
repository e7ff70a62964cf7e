"""Points 8 and 9: the table that numbers the formulas, and their texts."""

import unittest

from redopages.errors import BadFormula, RedoError
from redopages.logs import Contents
from samples import leaf, node

START, FRESH = ("start", leaf(3)), ("fresh", 5, "to")
NONE = ("derived", 5, "to", ())


def table(*formulas):
    """A table with these formulas, which must get the numbers 0, 1, 2 and so on."""
    contents = Contents()
    for at, formula in enumerate(formulas):
        assert contents.number_of(formula) == at
    return contents


def listed(contents):
    """The formulas of a table, in the order of their numbers."""
    return [contents.formula(number) for number in range(len(contents))]


class Numbers(unittest.TestCase):
    def test_new_formulas_are_numbered_from_zero(self):
        contents = Contents()
        self.assertEqual(len(contents), 0)
        formulas = [START, FRESH, NONE, ("derived", 6, "to", (0,)), ("derived", 6, "to", (0, 3))]
        for at, formula in enumerate(formulas):
            self.assertEqual(contents.number_of(formula), at)
            self.assertEqual(len(contents), at + 1)
            for before in range(at + 1):
                self.assertEqual(contents.number_of(formulas[before]), before)
                self.assertEqual(contents.formula(before), formulas[before])
            self.assertEqual(len(contents), at + 1)

    def test_equal_formulas_have_one_number(self):
        contents = table(START, ("derived", 2, "to", (0, 0)))
        self.assertEqual(contents.number_of(("start", ("le" + "af", 3))), 0)
        self.assertEqual(contents.number_of(("derived", 2, "to", tuple([0, 0]))), 1)
        self.assertEqual(len(contents), 2)

    def test_formulas_that_differ_in_one_thing_have_different_numbers(self):
        rows = [START, ("start", leaf(4)), ("start", node(3)), FRESH, ("fresh", 6, "to"), ("fresh", 5, "old"), NONE,
                ("derived", 6, "to", ()), ("derived", 5, "old", ()), ("derived", 5, "to", (0,)),
                ("derived", 5, "to", (1,)), ("derived", 5, "to", (0, 1)), ("derived", 5, "to", (1, 0)),
                ("derived", 5, "to", (0, 0))]
        self.assertEqual(listed(table(*rows)), rows)

    def test_a_formula_is_a_tuple(self):
        contents = table(START, FRESH, ("derived", 1, "to", (1, 0)))
        for number in range(3):
            self.assertIs(type(contents.formula(number)), tuple)
        self.assertIs(type(contents.formula(2)[3]), tuple)

    def test_two_tables_number_for_themselves(self):
        one, two = table(START, FRESH), table(FRESH, NONE, START)
        self.assertEqual((one.number_of(FRESH), two.number_of(FRESH)), (1, 0))
        self.assertEqual((one.number_of(START), two.number_of(START)), (0, 2))
        self.assertEqual((len(one), len(two)), (2, 3))

    def test_parameters_may_be_given_by_name(self):
        contents = Contents()
        self.assertEqual(contents.number_of(formula=START), 0)
        self.assertEqual(contents.formula(number=0), START)
        self.assertEqual(contents.text(number=0, depth=1), "leaf:3")


class Wrong(unittest.TestCase):
    def refused(self, contents, formula, number):
        before = listed(contents)
        for _ in range(2):
            with self.subTest(formula):
                with self.assertRaises(BadFormula) as caught:
                    contents.number_of(formula)
                self.assertEqual(caught.exception.number, number)
                self.assertIsInstance(caught.exception, RedoError)
                self.assertEqual(listed(contents), before)

    def test_the_first_number_that_the_table_does_not_have(self):
        contents = table(START, FRESH, NONE)
        for numbers, number in [((3,), 3), ((-1,), -1), ((0, 1, 2, 3), 3), ((4, 3), 4), ((0, -2, 9), -2),
                                ((9, -2), 9), ((2, 1, -3, 0), -3), ((100, 0), 100)]:
            self.refused(contents, ("derived", 7, "to", numbers), number)

    def test_an_empty_table_has_no_number(self):
        self.refused(Contents(), ("derived", 1, "to", (0,)), 0)
        self.refused(Contents(), ("derived", 1, "to", (-1, 0)), -1)

    def test_the_next_formula_gets_the_next_number(self):
        contents = table(START)
        self.refused(contents, ("derived", 1, "to", (1,)), 1)
        self.assertEqual(contents.number_of(FRESH), 1)
        self.assertEqual(contents.number_of(("derived", 1, "to", (1,))), 2)

    def test_formula_and_text_of_other_numbers(self):
        for contents in (Contents(), table(START), table(START, FRESH, NONE)):
            many = len(contents)
            for number in (-1, -many, -many - 1, many, many + 1, 1000):
                if not 0 <= number < many:
                    for call in (contents.formula, contents.text):
                        with self.assertRaises(BadFormula) as caught:
                            call(number)
                        self.assertEqual(caught.exception.number, number)
                    with self.assertRaises(BadFormula):
                        contents.text(number, depth=0)
            self.assertEqual(len(contents), many)


class Texts(unittest.TestCase):
    def texts(self, contents, number):
        """The texts at the depths 0 to 4."""
        return [contents.text(number, depth=depth) for depth in range(5)]

    def test_start_fresh_and_derived_from_nothing(self):
        contents = table(START, FRESH, NONE, ("start", ("abcdefgh", 9999)), ("fresh", 99, "abcdefgh"))
        for number, text in enumerate(["leaf:3", "5.to()", "5.to()", "abcdefgh:9999", "99.abcdefgh()"]):
            self.assertEqual(self.texts(contents, number), [text] * 5)
            self.assertEqual(contents.text(number), text)

    def test_a_chain(self):
        contents = table(("start", leaf(0)), ("derived", 1, "old", (0,)), ("derived", 1, "new", (1,)),
                         ("derived", 2, "to", (2,)), ("derived", 3, "to", (3,)), ("derived", 4, "to", (4,)))
        self.assertEqual(self.texts(contents, 1), ["1.old(..)"] + ["1.old(leaf:0)"] * 4)
        self.assertEqual(self.texts(contents, 2), ["1.new(..)", "1.new(1.old(..))"] + ["1.new(1.old(leaf:0))"] * 3)
        self.assertEqual(self.texts(contents, 5), [
            "4.to(..)",
            "4.to(3.to(..))",
            "4.to(3.to(2.to(..)))",
            "4.to(3.to(2.to(1.new(..))))",
            "4.to(3.to(2.to(1.new(1.old(..)))))",
        ])

    def test_several_numbers(self):
        contents = table(START, FRESH, NONE, ("derived", 6, "sum", (1, 0, 2)), ("derived", 7, "all", (3, 3, 0, 1)))
        self.assertEqual(self.texts(contents, 3), ["6.sum(..)"] + ["6.sum(5.to(), leaf:3, 5.to())"] * 4)
        self.assertEqual(self.texts(contents, 4), [
            "7.all(..)",
            "7.all(6.sum(..), 6.sum(..), leaf:3, 5.to())",
        ] + ["7.all(6.sum(5.to(), leaf:3, 5.to()), 6.sum(5.to(), leaf:3, 5.to()), leaf:3, 5.to())"] * 3)

    def test_without_a_depth_it_is_two(self):
        contents = table(START, ("derived", 1, "a", (0,)), ("derived", 2, "b", (1,)), ("derived", 3, "c", (2,)))
        for number, text in enumerate(["leaf:3", "1.a(leaf:3)", "2.b(1.a(leaf:3))", "3.c(2.b(1.a(..)))"]):
            self.assertEqual(contents.text(number), text)
            self.assertEqual(contents.text(number, depth=2), text)

    def test_the_depth_is_given_by_name_only(self):
        self.assertRaises(TypeError, table(START).text, 0, 2)

    def test_a_depth_somewhat_beyond_raises_no_error(self):
        contents = table(START, *[("derived", at + 1, "to", (at,)) for at in range(7)])
        self.assertEqual(contents.text(7, depth=5), "7.to(6.to(5.to(4.to(3.to(2.to(..))))))")
        self.assertEqual(contents.text(7, depth=9), "7.to(6.to(5.to(4.to(3.to(2.to(1.to(leaf:3)))))))")

    def test_a_text_adds_nothing(self):
        contents = table(START, ("derived", 1, "a", (0, 0)))
        self.texts(contents, 1)
        self.assertEqual(listed(contents), [START, ("derived", 1, "a", (0, 0))])


if __name__ == "__main__":
    unittest.main()
