"""Errors: their bases, their attributes, and the lists in them."""

import unittest

from redopages import errors
from redopages.errors import BadName, BadOrder, Broken, Held, Newer, RedoError

PAGE = ("leaf", 3)
ROW = ("split", "old", "new")

# The attributes of each error, in the order of the constructor's parameters, and a value for each.
ATTRIBUTES = {
    "BadName": [("name", "Leaf 1")],
    "BadKind": [("name", "split")],
    "NoKind": [("name", "merge")],
    "NoRole": [("name", "")],
    "BadStep": [("kind", "split"), ("at", -1)],
    "NoStep": [("number", 0)],
    "BadFormula": [("number", 7)],
    "BadStamp": [("page", PAGE), ("version", 12)],
    "BadWait": [("row", ROW)],
    "Held": [("page", PAGE), ("behind", [("leaf", 1), ("leaf", 4)])],
    "Newer": [("step", 5), ("page", PAGE), ("stood", 2), ("stamp", 6)],
    "Broken": [("page", PAGE), ("due", 4), ("found", 9), ("newer", Newer(5, PAGE, 2, 6))],
    "MutualWait": [("kind", "swap")],
    "BadSlot": [("row", ("split", "new"))],
    "BadSize": [("group", "leaf")],
    "BadOrder": [("order", ["node", "leaf", "leaf"])],
    "OutOfTurn": [("page", PAGE)],
}


def made(name):
    """Create the error with this name from the table, with arguments by position."""
    return getattr(errors, name)(*[value for _, value in ATTRIBUTES[name]])


class Bases(unittest.TestCase):
    def test_there_are_seventeen_errors_beside_the_base_class(self):
        found = [name for name, value in vars(errors).items() if isinstance(value, type)]
        self.assertEqual(sorted(found), sorted([*ATTRIBUTES, "RedoError"]))
        self.assertEqual(len(ATTRIBUTES), 17)

    def test_the_base_class_is_a_value_error(self):
        self.assertEqual(RedoError.__bases__, (ValueError,))

    def test_each_error_derives_directly_from_the_base_class(self):
        for name in ATTRIBUTES:
            with self.subTest(name):
                self.assertEqual(getattr(errors, name).__bases__, (RedoError,))

    def test_each_error_is_caught_as_redo_error_and_as_value_error(self):
        for name in ATTRIBUTES:
            with self.subTest(name):
                for caught in (RedoError, ValueError):
                    with self.assertRaises(caught):
                        raise made(name)

    def test_no_error_is_caught_as_another_one(self):
        for name in ATTRIBUTES:
            for other in ATTRIBUTES:
                with self.subTest(name, other=other):
                    self.assertEqual(isinstance(made(name), getattr(errors, other)), name == other)


class Attributes(unittest.TestCase):
    def test_arguments_by_position_become_the_attributes(self):
        for name, attributes in ATTRIBUTES.items():
            with self.subTest(name):
                error = made(name)
                self.assertEqual(vars(error), dict(attributes))
                for attribute, value in attributes:
                    self.assertEqual(getattr(error, attribute), value)

    def test_the_parameters_have_the_names_of_the_attributes(self):
        for name, attributes in ATTRIBUTES.items():
            with self.subTest(name):
                error = getattr(errors, name)(**dict(reversed(attributes)))
                self.assertEqual(vars(error), dict(attributes))

    def test_one_argument_less_or_more_is_refused(self):
        for name, attributes in ATTRIBUTES.items():
            values = [value for _, value in attributes]
            with self.subTest(name):
                self.assertRaises(TypeError, getattr(errors, name), *values[1:])
                self.assertRaises(TypeError, getattr(errors, name), *values, 1)

    def test_two_errors_of_a_class_keep_their_own_attributes(self):
        first, second = BadName("A"), BadName("B")
        self.assertEqual((first.name, second.name), ("A", "B"))

    def test_the_reason_of_a_broken_is_kept_as_it_is(self):
        newer = Newer(5, PAGE, 2, 6)
        self.assertIs(Broken(PAGE, 4, 9, newer).newer, newer)

    def test_a_broken_can_be_raised_from_its_reason(self):
        newer = Newer(5, PAGE, 2, 6)
        with self.assertRaises(Broken) as caught:
            raise Broken(PAGE, 4, 9, newer) from newer
        self.assertIs(caught.exception.__cause__, newer)


class Lists(unittest.TestCase):
    def test_held_has_a_new_list(self):
        behind = [("leaf", 1), ("leaf", 4)]
        error = Held(PAGE, behind)
        self.assertIs(type(error.behind), list)
        self.assertIsNot(error.behind, behind)
        behind.append(("leaf", 9))
        self.assertEqual(error.behind, [("leaf", 1), ("leaf", 4)])
        error.behind.clear()
        self.assertEqual(behind, [("leaf", 1), ("leaf", 4), ("leaf", 9)])

    def test_bad_order_has_a_new_list(self):
        order = ["node", "leaf"]
        error = BadOrder(order)
        self.assertIs(type(error.order), list)
        self.assertIsNot(error.order, order)
        order.append("root")
        self.assertEqual(error.order, ["node", "leaf"])
        error.order.clear()
        self.assertEqual(order, ["node", "leaf", "root"])

    def test_empty_lists_are_new_lists_too(self):
        given = []
        self.assertIsNot(Held(PAGE, given).behind, given)
        self.assertIsNot(BadOrder(given).order, given)
        self.assertEqual((Held(PAGE, given).behind, BadOrder(given).order), ([], []))


if __name__ == "__main__":
    unittest.main()
