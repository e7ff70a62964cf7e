"""Point 5: catalogs of kinds, their groups and made groups."""

import unittest

from redopages.errors import BadKind, NoKind, NoRole, RedoError
from redopages.kinds import Both, Catalog, Fresh, Kind, Made, Read, Renewed


def kinds_of(names):
    """A list with a kind for each of the names, in this order."""
    return [Kind(name, [Made("new", "leaf")]) for name in names]


class Valid(unittest.TestCase):
    def test_zero_to_eight_kinds_in_the_order_given(self):
        for many in range(9):
            with self.subTest(many=many):
                kinds = kinds_of("hbgacfed"[:many])
                catalog = Catalog(kinds)
                self.assertIs(type(catalog.kinds), tuple)
                self.assertEqual(catalog.kinds, tuple(kinds))
                self.assertEqual(len(catalog), many)
                self.assertEqual(list(catalog), kinds)

    def test_somewhat_more_kinds_and_groups_raise_no_error(self):
        kinds = [Kind(letter, [Made("new", letter)]) for letter in "abcdefghij"]
        catalog = Catalog(kinds)
        self.assertEqual(len(catalog), 10)
        self.assertEqual(catalog.groups(), list("abcdefghij"))

    def test_a_catalog_is_iterated_over_as_often_as_one_likes(self):
        kinds = kinds_of(["split", "merge", "copy"])
        catalog = Catalog(kinds)
        for _ in range(2):
            for at, kind in enumerate(catalog):
                self.assertIs(kind, kinds[at])
        both = [(first.name, second.name) for first in catalog for second in catalog]
        self.assertEqual(len(both), 9)

    def test_kinds_may_be_alike_but_for_their_names(self):
        self.assertEqual(len(Catalog(kinds_of(["a", "b"]))), 2)

    def test_parameters_may_be_given_by_name(self):
        self.assertEqual(len(Catalog(kinds=[])), 0)

    def test_the_list_that_was_passed_is_not_changed(self):
        kinds = kinds_of(["split", "merge", "copy"])
        before = list(kinds)
        catalog = Catalog(kinds)
        catalog.groups()
        catalog.made_groups()
        catalog.named("merge")
        self.assertEqual(kinds, before)

    def test_a_later_change_of_the_list_changes_nothing(self):
        kinds = kinds_of(["split", "merge"])
        before = list(kinds)
        catalog = Catalog(kinds)
        kinds.append(Kind("copy", [Made("new", "node")]))
        kinds[0] = Kind("swap", [Made("new", "root")])
        self.assertEqual(catalog.kinds, tuple(before))
        self.assertEqual((len(catalog), list(catalog)), (2, before))
        self.assertEqual((catalog.groups(), catalog.made_groups()), (["leaf"], ["leaf"]))
        self.assertRaises(NoKind, catalog.named, "copy")
        kinds.clear()
        self.assertIs(catalog.named("split"), before[0])


class Invalid(unittest.TestCase):
    def test_the_first_kind_whose_name_an_earlier_one_has(self):
        rows = [("aa", "a"), ("aba", "a"), ("abba", "b"), ("abcb", "b"), ("bcacb", "c"), ("abcdefga", "a"),
                ("zyxwvuyz", "y"), ("abab", "a"), ("aaa", "a"), ("cbabc", "b")]
        for names, name in rows:
            with self.subTest(names):
                kinds = kinds_of(names)
                before = list(kinds)
                with self.assertRaises(BadKind) as caught:
                    Catalog(kinds)
                self.assertEqual(caught.exception.name, name)
                self.assertEqual(kinds, before)

    def test_the_same_kind_twice(self):
        kind = Kind("split", [Made("new", "leaf")])
        with self.assertRaises(BadKind) as caught:
            Catalog([kind, kind])
        self.assertEqual(caught.exception.name, "split")

    def test_kinds_that_differ_but_for_their_names(self):
        kinds = [Kind("split", [Made("new", "leaf")]), Kind("split", [Both("old", "node")])]
        for caught in (BadKind, RedoError, ValueError):
            self.assertRaises(caught, Catalog, kinds)


class Named(unittest.TestCase):
    def setUp(self):
        self.kinds = kinds_of(["split", "merge", "copy"])
        self.catalog = Catalog(self.kinds)

    def test_it_returns_the_very_kind(self):
        for kind in self.kinds:
            self.assertIs(self.catalog.named(kind.name), kind)

    def test_other_names_raise_no_kind(self):
        for name in ("", "new", "leaf", "spli", "splits", "Split", "split ", "x" * 20):
            for catalog in (self.catalog, Catalog([])):
                with self.subTest(name, many=len(catalog)):
                    with self.assertRaises(NoKind) as caught:
                        catalog.named(name)
                    self.assertEqual(caught.exception.name, name)
                    self.assertNotIsInstance(caught.exception, NoRole)
        self.assertEqual(self.catalog.kinds, tuple(self.kinds))


class Groups(unittest.TestCase):
    def setUp(self):
        self.catalog = Catalog([
            Kind("z", [Both("old", "node"), Made("new", "leaf"), Read("meta", "tail")]),
            Kind("a", [Read("old", "root"), Fresh("new", "node"), Read("up", "leaf"), Read("down", "base")]),
            Kind("m", [Renewed("old", "heap"), Fresh("new", "area"), Read("also", "tail")]),
        ])

    def test_all_groups_ascending_each_once(self):
        self.assertEqual(self.catalog.groups(), ["area", "base", "heap", "leaf", "node", "root", "tail"])

    def test_made_groups_ascending_each_once(self):
        self.assertEqual(self.catalog.made_groups(), ["area", "heap", "leaf", "node"])

    def test_each_class_that_makes_makes_its_group(self):
        for shape in (Made, Fresh, Both, Renewed):
            catalog = Catalog([Kind("put", [Read("old", "base"), shape("new", "leaf")])])
            self.assertEqual((catalog.groups(), catalog.made_groups()), (["base", "leaf"], ["leaf"]))

    def test_a_group_that_one_kind_reads_and_another_makes_is_made(self):
        catalog = Catalog([
            Kind("a", [Read("old", "leaf"), Made("new", "node")]),
            Kind("b", [Made("new", "leaf")]),
        ])
        self.assertEqual(catalog.made_groups(), ["leaf", "node"])

    def test_an_empty_catalog_has_no_groups(self):
        self.assertEqual((Catalog([]).groups(), Catalog([]).made_groups()), ([], []))

    def test_the_lists_are_new_ones_each_time(self):
        for catalog in (self.catalog, Catalog([])):
            for ask in (catalog.groups, catalog.made_groups):
                first = ask()
                before = list(first)
                self.assertIs(type(first), list)
                self.assertIsNot(first, ask())
                first.append("zone")
                first.reverse()
                self.assertEqual(ask(), before)


if __name__ == "__main__":
    unittest.main()
