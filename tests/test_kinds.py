"""Points 3, 4 and 5: kinds of steps."""

import unittest

from redopages.errors import BadKind, BadName, NoKind, NoRole, RedoError
from redopages.kinds import Both, Fresh, Kind, Made, Read, Renewed

BAD_NAMES = ("", "abcdefghi", "abcdefghijklmnopqrst", "Split", "split ", " split", "spl it", "split1", "spl-it")


def readers(many):
    """A list of roles that only read."""
    return [Read(letter, "leaf") for letter in "abcdefg"[:many]]


def wrong_lists():
    """Lists of roles that no kind has, by what is wrong with them."""
    return {
        "none": [],
        "seven": [*readers(6), Made("new", "leaf")],
        "seven that make": [Made(letter, "leaf") for letter in "abcdefg"],
        "same name side by side": [Both("old", "leaf"), Both("old", "leaf")],
        "same name apart": [Read("old", "leaf"), Made("new", "leaf"), Read("old", "node")],
        "same name at the end": [Made("new", "leaf"), Fresh("up", "node"), Renewed("up", "leaf")],
        "one that reads": [Read("old", "leaf")],
        "six that read": readers(6),
        "seven that read": readers(7),
        "same name, none makes": [Read("old", "leaf"), Read("old", "leaf")],
    }


class Valid(unittest.TestCase):
    def test_one_role_that_makes_is_enough(self):
        for shape in (Made, Fresh, Both, Renewed):
            role = shape("new", "leaf")
            kind = Kind("put", [role])
            self.assertEqual((kind.name, kind.roles), ("put", (role,)))

    def test_one_to_six_roles_in_the_order_given(self):
        for many in range(6):
            for at in range(many + 1):
                roles = readers(many)
                roles.insert(at, Made("new", "leaf"))
                kind = Kind("split", roles)
                self.assertIs(type(kind.roles), tuple)
                self.assertEqual(list(kind.roles), roles)

    def test_roles_are_not_sorted(self):
        roles = [Made("z", "leaf"), Read("b", "node"), Read("y", "leaf"), Read("a", "leaf")]
        kind = Kind("move", roles)
        self.assertEqual([role.name for role in kind.roles], ["z", "b", "y", "a"])
        for at, role in enumerate(roles):
            self.assertIs(kind.roles[at], role)

    def test_names_of_one_to_eight_letters(self):
        for name in ("a", "z", "split", "abcdefgh", "zzzzzzzz"):
            self.assertEqual(Kind(name, [Made("new", "leaf")]).name, name)

    def test_a_kind_may_have_the_name_of_a_role_and_of_a_group(self):
        kind = Kind("leaf", [Both("leaf", "leaf"), Made("new", "leaf")])
        self.assertEqual((kind.name, kind.roles[0].name), ("leaf", "leaf"))

    def test_parameters_may_be_given_by_name(self):
        self.assertEqual(Kind(roles=[Made("new", "leaf")], name="put").name, "put")

    def test_the_list_that_was_passed_is_not_changed(self):
        roles = [Made("z", "leaf"), Read("b", "node"), Read("a", "leaf")]
        before = list(roles)
        kind = Kind("move", roles)
        kind.pairs()
        kind.role_named("b")
        self.assertEqual(roles, before)

    def test_a_later_change_of_the_list_changes_nothing(self):
        roles = [Both("old", "leaf"), Made("new", "leaf")]
        old, new = roles
        kind = Kind("split", roles)
        roles.append(Made("up", "node"))
        roles[0] = Read("other", "leaf")
        self.assertEqual(kind.roles, (old, new))
        self.assertEqual(kind.pairs(), [("old", "new")])
        self.assertRaises(NoRole, kind.role_named, "up")
        roles.clear()
        self.assertIs(kind.role_named("old"), old)


class Invalid(unittest.TestCase):
    def test_wrong_roles_raise_bad_kind_with_the_name_of_the_kind(self):
        for wrong, roles in wrong_lists().items():
            with self.subTest(wrong):
                before = list(roles)
                with self.assertRaises(BadKind) as caught:
                    Kind("split", roles)
                self.assertEqual(caught.exception.name, "split")
                self.assertNotIsInstance(caught.exception, BadName)
                self.assertEqual(roles, before)

    def test_a_wrong_name_raises_bad_name(self):
        for name in BAD_NAMES:
            with self.subTest(name):
                with self.assertRaises(BadName) as caught:
                    Kind(name, [Made("new", "leaf")])
                self.assertEqual(caught.exception.name, name)
                self.assertNotIsInstance(caught.exception, BadKind)

    def test_each_sign_that_is_no_letter_is_refused(self):
        for code in range(ord(" "), ord("~") + 1):
            sign = chr(code)
            if sign != "%" and not "a" <= sign <= "z":
                word = "splitter"
                for name in [sign, *[word[:at] + sign + word[at + 1:] for at in range(len(word))]]:
                    self.assertRaises(BadName, Kind, name, [Made("new", "leaf")])

    def test_bad_name_comes_ahead_of_all_else(self):
        for wrong, roles in wrong_lists().items():
            for name in BAD_NAMES:
                with self.subTest(wrong, name=name):
                    with self.assertRaises(BadName) as caught:
                        Kind(name, roles)
                    self.assertEqual(caught.exception.name, name)

    def test_bad_kind_is_a_redo_error_and_a_value_error(self):
        for caught in (RedoError, ValueError):
            self.assertRaises(caught, Kind, "split", [])


class RoleNamed(unittest.TestCase):
    def setUp(self):
        self.roles = [Both("old", "leaf"), Read("up", "node"), Made("new", "leaf")]
        self.kind = Kind("split", self.roles)

    def test_it_returns_the_very_role(self):
        for role in self.roles:
            self.assertIs(self.kind.role_named(role.name), role)

    def test_other_names_raise_no_role(self):
        for name in ("", "split", "leaf", "node", "ol", "olds", "Old", "old ", "x" * 20):
            with self.subTest(name):
                with self.assertRaises(NoRole) as caught:
                    self.kind.role_named(name)
                self.assertEqual(caught.exception.name, name)
                self.assertNotIsInstance(caught.exception, NoKind)
        self.assertEqual(self.kind.roles, tuple(self.roles))


class Pairs(unittest.TestCase):
    def test_pairs_of_a_role_that_reads_and_one_that_is_derived(self):
        kind = Kind("split", [Both("old", "leaf"), Made("new", "leaf")])
        self.assertEqual(kind.pairs(), [("old", "new")])

    def test_pairs_for_each_two_classes(self):
        for first in (Read, Made, Fresh, Both, Renewed):
            for second in (Read, Made, Fresh, Both, Renewed):
                roles = [first("q", "leaf"), second("p", "leaf"), Fresh("x", "leaf")]
                due = []
                if first in (Read, Both, Renewed) and second in (Made, Both):
                    due.append(("q", "p"))
                if second in (Read, Both, Renewed) and first in (Made, Both):
                    due.append(("p", "q"))
                with self.subTest(first.__name__, second=second.__name__):
                    self.assertEqual(Kind("step", roles).pairs(), due)

    def test_pairs_come_in_the_order_of_the_roles(self):
        roles = [Made("z", "leaf"), Both("y", "node"), Fresh("n", "leaf"), Read("c", "root"),
                 Renewed("b", "leaf"), Both("a", "leaf")]
        self.assertEqual(Kind("move", roles).pairs(), [
            ("y", "z"), ("y", "a"),
            ("c", "z"), ("c", "y"), ("c", "a"),
            ("b", "z"), ("b", "y"), ("b", "a"),
            ("a", "z"), ("a", "y"),
        ])

    def test_groups_play_no_part_in_pairs(self):
        same = Kind("copy", [Read("from", "leaf"), Made("to", "leaf")])
        other = Kind("copy", [Read("from", "root"), Made("to", "leaf")])
        self.assertEqual(same.pairs(), other.pairs())

    def test_there_may_be_no_pairs(self):
        for roles in ([Both("old", "leaf")], [Made("x", "leaf"), Made("y", "leaf")],
                      [Read("x", "leaf"), Fresh("y", "leaf")], [Renewed("x", "leaf"), Renewed("y", "leaf")]):
            self.assertEqual(Kind("step", roles).pairs(), [])

    def test_pairs_are_a_new_list_each_time(self):
        kind = Kind("split", [Both("old", "leaf"), Made("new", "leaf")])
        first = kind.pairs()
        self.assertIs(type(first), list)
        self.assertIs(type(first[0]), tuple)
        self.assertIsNot(first, kind.pairs())
        first.append(("new", "old"))
        self.assertEqual(kind.pairs(), [("old", "new")])


if __name__ == "__main__":
    unittest.main()
