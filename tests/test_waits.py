"""Point 11: what a wait and a lot of waits are, and when a wait is valid."""

import unittest

from redopages.errors import BadWait, RedoError
from redopages.kinds import Both, Catalog, Fresh, Kind, Made, Read, Renewed
from redopages.waits import Waits, joined

A = ("copy", "from", "to")
B = ("copy", "to", "from")
C = ("split", "new", "old")
D = ("split", "old", "new")
E = ("split", "old", "up")


def subsets(rows):
    """All lists of some of the rows, in the order of the rows."""
    found = [[]]
    for row in rows:
        found += [[*some, row] for some in found]
    return found


class Rows(unittest.TestCase):
    def test_rows_are_ascending_and_each_once(self):
        rows = [D, A, E, D, C, A, B, E]
        for given in (rows, tuple(rows)):
            waits = Waits(given)
            self.assertIs(type(waits.rows), tuple)
            self.assertEqual(waits.rows, (A, B, C, D, E))
            self.assertEqual(list(waits), [A, B, C, D, E])
            self.assertEqual(len(waits), 5)

    def test_rows_are_ordered_by_kind_then_first_then_second(self):
        rows = [("b", "a", "c"), ("a", "c", "b"), ("a", "b", "d"), ("a", "b", "c"), ("b", "a", "b"), ("ab", "a", "b")]
        self.assertEqual(Waits(rows).rows, tuple(sorted(rows)))

    def test_an_empty_lot(self):
        for given in ([], ()):
            waits = Waits(given)
            self.assertEqual((waits.rows, len(waits), list(waits)), ((), 0, []))
            self.assertIs(A in waits, False)

    def test_which_waits_a_lot_has(self):
        waits = Waits([D, A])
        self.assertIs(A in waits, True)
        self.assertIs(D in waits, True)
        for row in (B, C, E, ("copy", "to", "to"), ("", "", ""), ("split", "old", "ne")):
            self.assertIs(row in waits, False)

    def test_a_lot_is_iterated_over_as_often_as_one_likes(self):
        waits = Waits([D, A, C])
        self.assertEqual([(x, y) for x in waits for y in waits], [(x, y) for x in (A, C, D) for y in (A, C, D)])

    def test_nothing_but_equal_roles_is_checked(self):
        rows = [("no kind", "Old", "NEW"), ("", "", "x"), ("split", "x", "xx"), ("a", "a", "b")]
        self.assertEqual(Waits(rows).rows, tuple(sorted(rows)))

    def test_the_list_that_was_passed_is_not_changed(self):
        rows = [D, A, E, D, C, A, B, E]
        before = list(rows)
        waits = Waits(rows)
        rows.append(("move", "x", "y"))
        rows[0] = ("move", "y", "x")
        self.assertEqual(rows[1:-1], before[1:])
        self.assertEqual(waits.rows, (A, B, C, D, E))
        rows.clear()
        self.assertEqual((len(waits), list(waits), D in waits), (5, [A, B, C, D, E], True))

    def test_parameters_may_be_given_by_name(self):
        self.assertEqual(Waits(rows=[A]).rows, (A,))


class SameRoleTwice(unittest.TestCase):
    def test_the_first_one_in_the_order_given(self):
        low, high = ("copy", "a", "a"), ("split", "b", "b")
        rows = [([low], low), ([low, high], low), ([high, low], high), ([D, A, high, low], high),
                ([D, low, A, high], low), ([A, B, C, D, E, high], high), ([high, high], high)]
        for given, row in rows:
            for form in (list(given), tuple(given)):
                with self.subTest(form):
                    with self.assertRaises(BadWait) as caught:
                        Waits(form)
                    self.assertEqual(caught.exception.row, row)
                    self.assertEqual(list(form), given)

    def test_any_string_twice_is_refused(self):
        for row in [("split", "", ""), ("", "x y", "x y"), ("x", "x", "x")]:
            for caught in (BadWait, RedoError, ValueError):
                self.assertRaises(caught, Waits, [row])

    def test_the_kind_may_have_the_name_of_a_role(self):
        self.assertEqual(len(Waits([("old", "old", "new"), ("new", "old", "new")])), 2)


class Operators(unittest.TestCase):
    def test_all_pairs_of_small_lots(self):
        for left in subsets([A, C, D]):
            for right in subsets([A, B, D]):
                one, two = Waits(left), Waits(right)
                with self.subTest(left, right=right):
                    self.assertEqual((one | two).rows, tuple(sorted({*left, *right})))
                    self.assertEqual((one & two).rows, tuple(sorted({*left} & {*right})))
                    self.assertEqual((one - two).rows, tuple(sorted({*left} - {*right})))
                    self.assertIs(one.within(two), {*left} <= {*right})
                    self.assertIs(one == two, {*left} == {*right})
                    self.assertIs(one != two, {*left} != {*right})

    def test_no_lot_changes(self):
        one, two = Waits([D, A, C]), Waits([E, A])
        for act in (lambda: one | two, lambda: one & two, lambda: one - two, lambda: one == two,
                    lambda: one.within(two), lambda: joined(one, two), lambda: one | one, lambda: one - one):
            act()
            self.assertEqual((one.rows, two.rows), ((A, C, D), (A, E)))

    def test_the_results_are_new_lots(self):
        one, none = Waits([A, D]), Waits([])
        for lot in (one | one, one | none, none | one, one & one, one - none, joined(one), joined(one, none)):
            self.assertIs(type(lot), Waits)
            self.assertIsNot(lot, one)
            self.assertIs(lot == one, True)

    def test_equal_lots_may_be_given_in_any_order_and_form(self):
        self.assertIs(Waits([D, A, D]) == Waits((A, D)), True)
        self.assertIs(Waits([]) == Waits(()), True)
        self.assertIs(Waits([A]) == Waits([B]), False)
        self.assertIs(Waits([A]) == Waits([A, B]), False)
        self.assertIs(Waits([A, B]) == Waits([A]), False)

    def test_a_lot_is_equal_to_lots_only(self):
        for other in ((A,), [A], A, None):
            self.assertIs(Waits([A]) == other, False)
            self.assertIs(Waits([A]) != other, True)

    def test_within(self):
        self.assertIs(Waits([]).within(Waits([])), True)
        self.assertIs(Waits([]).within(Waits([A])), True)
        self.assertIs(Waits([A]).within(Waits([])), False)
        self.assertIs(Waits([A, D]).within(Waits([D, C, A])), True)
        self.assertIs(Waits([A, E]).within(Waits([D, C, A])), False)
        self.assertIs(Waits([D, C, A]).within(Waits([A, D])), False)


class Joined(unittest.TestCase):
    def test_of_none_it_is_empty(self):
        self.assertIs(type(joined()), Waits)
        self.assertEqual(joined().rows, ())

    def test_of_one_and_several(self):
        self.assertEqual(joined(Waits([D, A])).rows, (A, D))
        self.assertEqual(joined(Waits([]), Waits([])).rows, ())
        self.assertEqual(joined(Waits([D]), Waits([A, D]), Waits([]), Waits([C, B])).rows, (A, B, C, D))
        self.assertEqual(joined(Waits([E]), Waits([D]), Waits([C]), Waits([B]), Waits([A])).rows, (A, B, C, D, E))

    def test_the_lots_do_not_change(self):
        lots = [Waits([D]), Waits([A, D]), Waits([])]
        joined(*lots)
        self.assertEqual([lot.rows for lot in lots], [(D,), (A, D), ()])


class Require(unittest.TestCase):
    def setUp(self):
        self.catalog = Catalog([
            Kind("split", [Both("old", "leaf"), Made("new", "leaf"), Read("up", "node")]),
            Kind("copy", [Read("from", "leaf"), Fresh("to", "leaf"), Renewed("log", "log"), Made("more", "leaf")]),
        ])

    def refused(self, rows, row, catalog=None):
        catalog = self.catalog if catalog is None else catalog
        waits = Waits(rows)
        before = (waits.rows, catalog.kinds)
        with self.assertRaises(BadWait) as caught:
            waits.require(catalog)
        self.assertEqual(caught.exception.row, row)
        self.assertEqual((waits.rows, catalog.kinds), before)

    def test_valid_waits_give_none(self):
        rows = [(kind.name, first.name, second.name) for kind in self.catalog
                for first in kind.roles for second in kind.roles if second.makes() and first.name != second.name]
        self.assertEqual(len(rows), 13)
        self.assertIsNone(Waits(rows).require(self.catalog))
        for row in rows:
            self.assertIsNone(Waits([row]).require(self.catalog))

    def test_an_empty_lot_is_valid_for_any_catalog(self):
        for catalog in (self.catalog, Catalog([])):
            self.assertIsNone(Waits([]).require(catalog))

    def test_no_such_kind(self):
        for kind in ("merge", "", "spli", "Split", "old", "leaf"):
            self.refused([(kind, "old", "new")], (kind, "old", "new"))
        self.refused([D], D, Catalog([]))

    def test_no_such_first_role(self):
        for first in ("from", "", "ol", "Old", "leaf", "split"):
            self.refused([("split", first, "new")], ("split", first, "new"))

    def test_no_such_second_role(self):
        for second in ("to", "", "ne", "New", "leaf", "split"):
            self.refused([("split", "old", second)], ("split", "old", second))

    def test_the_second_role_does_not_make(self):
        for row in [("split", "old", "up"), ("split", "new", "up"), ("copy", "to", "from"), ("copy", "more", "from")]:
            self.refused([row], row)

    def test_roles_of_different_kinds(self):
        self.refused([("split", "from", "to")], ("split", "from", "to"))
        self.refused([("copy", "from", "new")], ("copy", "from", "new"))

    def test_a_role_that_makes_in_another_kind_only(self):
        catalog = Catalog([Kind("a", [Read("x", "leaf"), Made("y", "leaf")]),
                           Kind("b", [Made("x", "leaf"), Read("y", "leaf")])])
        self.assertIsNone(Waits([("a", "x", "y"), ("b", "y", "x")]).require(catalog))
        self.refused([("a", "x", "y"), ("b", "x", "y")], ("b", "x", "y"), catalog)
        self.refused([("a", "y", "x"), ("b", "y", "x")], ("a", "y", "x"), catalog)

    def test_the_first_one_in_ascending_order(self):
        no_kind, no_first, no_second, no_make = (
            ("merge", "old", "new"), ("split", "from", "new"), ("split", "new", "to"), ("split", "old", "up"))
        rows = [no_make, ("split", "old", "new"), no_second, ("copy", "from", "to"), no_kind, no_first]
        self.refused(rows, no_kind)
        self.refused([row for row in rows if row != no_kind], no_first)
        self.refused([no_make, ("split", "old", "new"), no_second], no_second)
        self.refused([no_make, ("split", "old", "new"), ("copy", "from", "to")], no_make)
        self.refused([("split", "old", "up"), ("copy", "to", "from")], ("copy", "to", "from"))
        self.refused([("zebra", "old", "new"), ("split", "old", "up")], ("split", "old", "up"))
        self.refused([("copy", "to", "from"), ("ante", "old", "new")], ("ante", "old", "new"))


if __name__ == "__main__":
    unittest.main()
