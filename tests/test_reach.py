"""Point 17: what a role reaches through the waits of a kind, and when it is blocked."""

import unittest

from redopages.waits import Waits


def edges(kind, text):
    """The waits of a kind from words such as ab: the role a waits for the role b."""
    return [(kind, word[0], word[1]) for word in text.split()]


def closure(pairs, roles):
    """All pairs of roles of which the first reaches the second, found by joining paths."""
    found = {*pairs}
    for middle in roles:
        for first in roles:
            for last in roles:
                if (first, middle) in found and (middle, last) in found:
                    found.add((first, last))
    return found


class After(unittest.TestCase):
    def test_the_second_roles_ascending(self):
        waits = Waits([*edges("k", "az ab am ba zq"), *edges("j", "ac"), ("kk", "a", "d"), ("k", "aa", "e")])
        self.assertEqual(waits.after("k", "a"), ["b", "m", "z"])
        self.assertEqual(waits.after("k", "b"), ["a"])
        self.assertEqual(waits.after("j", "a"), ["c"])

    def test_arguments_need_not_occur(self):
        waits = Waits(edges("k", "ab bc"))
        for kind, role in [("k", "c"), ("k", "x"), ("k", ""), ("j", "a"), ("", ""), ("a", "k"), ("K", "a")]:
            self.assertEqual(waits.after(kind, role), [])
        self.assertEqual(Waits([]).after("k", "a"), [])

    def test_only_direct_waits_count(self):
        self.assertEqual(Waits(edges("k", "ab bc ca")).after("k", "a"), ["b"])


class Reach(unittest.TestCase):
    def test_paths_of_one_or_more_waits(self):
        waits = Waits(edges("k", "ab bc cd ae"))
        rows = [("a", ["b", "c", "d", "e"]), ("b", ["c", "d"]), ("c", ["d"]), ("d", []), ("e", [])]
        for role, due in rows:
            self.assertEqual(waits.reach("k", role), due)

    def test_roles_come_ascending_and_each_once(self):
        waits = Waits(edges("k", "az ay zx yx xb zb yz"))
        self.assertEqual(waits.reach("k", "a"), ["b", "x", "y", "z"])

    def test_a_role_reaches_itself_only_through_a_cycle(self):
        waits = Waits(edges("k", "ab ba ca cd"))
        self.assertEqual(waits.reach("k", "a"), ["a", "b"])
        self.assertEqual(waits.reach("k", "b"), ["a", "b"])
        self.assertEqual(waits.reach("k", "c"), ["a", "b", "d"])
        self.assertEqual(waits.reach("k", "d"), [])

    def test_a_long_cycle(self):
        waits = Waits(edges("k", "ab bc cd de ef fa"))
        for role in "abcdef":
            self.assertEqual(waits.reach("k", role), list("abcdef"))

    def test_kinds_are_kept_apart(self):
        waits = Waits([*edges("k", "ab"), *edges("j", "bc ba"), *edges("i", "ca")])
        self.assertEqual(waits.reach("k", "a"), ["b"])
        self.assertEqual(waits.reach("j", "b"), ["a", "c"])
        self.assertEqual(waits.reach("j", "a"), [])
        self.assertEqual(waits.reach("i", "c"), ["a"])

    def test_arguments_need_not_occur(self):
        waits = Waits(edges("k", "ab ba"))
        for kind, role in [("k", "x"), ("k", ""), ("j", "a"), ("", ""), ("a", "k"), ("kk", "a")]:
            self.assertEqual(waits.reach(kind, role), [])
        self.assertEqual(Waits([]).reach("k", "a"), [])


class Blocked(unittest.TestCase):
    def test_a_role_on_a_cycle(self):
        for text in ("ab ba", "ab bc ca", "ab bc cd de ef fa"):
            waits = Waits(edges("k", text))
            for role in sorted({*text} - {" "}):
                self.assertIs(waits.blocked("k", role), True)

    def test_a_role_that_only_reaches_a_cycle(self):
        waits = Waits(edges("k", "ab bc cd dc ce"))
        for role in "abcd":
            self.assertIs(waits.blocked("k", role), True)
        self.assertIs(waits.blocked("k", "e"), False)

    def test_a_role_that_a_cycle_reaches_is_not_blocked(self):
        waits = Waits(edges("k", "ab ba bc cd"))
        self.assertEqual([waits.blocked("k", role) for role in "abcd"], [True, True, False, False])

    def test_without_a_cycle_none_is_blocked(self):
        waits = Waits(edges("k", "ab ac bd cd ad"))
        for role in "abcd":
            self.assertIs(waits.blocked("k", role), False)

    def test_kinds_are_kept_apart(self):
        waits = Waits([*edges("k", "ab"), *edges("j", "ba"), *edges("i", "ab ba ca")])
        for kind in ("k", "j"):
            self.assertEqual([waits.blocked(kind, role) for role in "abc"], [False, False, False])
        self.assertEqual([waits.blocked("i", role) for role in "abc"], [True, True, True])

    def test_arguments_need_not_occur(self):
        waits = Waits(edges("k", "ab ba"))
        for kind, role in [("k", "x"), ("k", ""), ("j", "a"), ("", ""), ("a", "k"), ("kk", "a")]:
            self.assertIs(waits.blocked(kind, role), False)
        self.assertIs(Waits([]).blocked("k", "a"), False)


class AllSmallGraphs(unittest.TestCase):
    def test_every_lot_on_four_roles(self):
        roles = "abcd"
        pairs = [(first, second) for first in roles for second in roles if first != second]
        for number in range(1 << len(pairs)):
            some = [pair for at, pair in enumerate(pairs) if number >> at & 1]
            waits = Waits([("k", first, second) for first, second in some])
            reached = closure(some, roles)
            looped = [role for role in roles if (role, role) in reached]
            for role in roles:
                due = [other for other in roles if (role, other) in reached]
                self.assertEqual(waits.reach("k", role), due, some)
                self.assertIs(waits.blocked("k", role), any(other in looped for other in due), some)


class NewLists(unittest.TestCase):
    def test_the_lists_are_new_ones_each_time_and_the_lot_does_not_change(self):
        waits = Waits([*edges("k", "ab ba ac"), *edges("j", "ab")])
        before = waits.rows
        for ask in (waits.after, waits.reach):
            for kind, role in [("k", "a"), ("k", "c"), ("j", "a"), ("x", "y")]:
                first = ask(kind, role)
                due = list(first)
                self.assertIs(type(first), list)
                self.assertIsNot(first, ask(kind, role))
                first.append("z")
                first.reverse()
                self.assertEqual(ask(kind, role), due)
        waits.blocked("k", "a")
        self.assertEqual(waits.rows, before)


if __name__ == "__main__":
    unittest.main()
