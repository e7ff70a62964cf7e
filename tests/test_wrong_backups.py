"""Points 18, 19, 24 and 25: runs with a backup from which redo is not right, where the order is not safe."""

import itertools
import unittest

from redopages.backups import backup_order, wrong_backup
from redopages.errors import BadOrder, BadWait, Broken
from redopages.judge import dangers, wrong_run
from redopages.kinds import Both, Catalog, Fresh, Kind, Made, Read, Renewed
from redopages.logs import Contents
from redopages.redo import check
from redopages.waits import Waits
from models import backed_up, edges_by_word, exposed_rows, leads_forward, live_rows, shape_of, wide_catalog
from samples import Dice, books, some_waits, why_wrong

SPLIT = Catalog([Kind("split", [Both("old", "leaf"), Made("new", "leaf")])])
LOOK = Catalog([Kind("look", [Read("from", "a"), Made("to", "b")]), Kind("put", [Fresh("on", "a"), Renewed("by", "c")])])


def is_safe(catalog, rows, order):
    """Point 25: whether the order is safe."""
    return not exposed_rows(catalog, rows) and leads_forward(order, edges_by_word(catalog, live_rows(catalog, rows)))


class Wrong(unittest.TestCase):
    def goes_wrong(self, catalog, rows, order):
        """Check that the run keeps what is promised for it, and return it."""
        events = wrong_backup(catalog, Waits(rows), order)
        self.assertIs(type(events), list)
        for event in events:
            self.assertIs(type(event), tuple)
            self.assertEqual(len(event), {"do": 3, "flush": 2, "take": 2, "advance": 1}[event[0]])
            self.assertTrue(event == ("advance",) or type(event[-1]) is tuple)
        self.assertIn(len([event for event in events if event[0] == "do"]), (1, 2))
        store, backup = backed_up(catalog, Waits(rows), order, events)
        with self.assertRaises(Broken):
            check(store.log, backup.copied(), Contents())
        self.assertIsNotNone(why_wrong(store.log, backup.copied()))
        return events

    def test_none_for_safe_orders(self):
        self.assertIsNone(wrong_backup(Catalog([]), Waits([]), []))
        self.assertIsNone(wrong_backup(SPLIT, Waits([("split", "old", "new"), ("split", "new", "old")]), ["leaf"]))
        for order in (["a", "b", "c"], ["a", "c", "b"], ["c", "a", "b"]):
            self.assertIsNone(wrong_backup(LOOK, Waits([("look", "from", "to")]), order))

    def test_orders_that_are_wrong_for_safe_waits(self):
        waits = [("look", "from", "to")]
        for order in (["b", "a", "c"], ["b", "c", "a"], ["c", "b", "a"]):
            events = self.goes_wrong(LOOK, waits, order)
            self.assertIn("take", [event[0] for event in events])

    def test_waits_that_are_not_safe(self):
        for order in itertools.permutations("abc"):
            self.goes_wrong(LOOK, [], list(order))
        self.goes_wrong(SPLIT, [], ["leaf"])
        self.goes_wrong(SPLIT, [("split", "new", "old")], ["leaf"])

    def test_a_danger_within_one_group(self):
        events = self.goes_wrong(SPLIT, [("split", "old", "new")], ["leaf"])
        self.assertEqual(len([event for event in events if event[0] == "do"]), 1)
        copy = Catalog([Kind("copy", [Read("from", "leaf"), Made("to", "leaf"), Fresh("log", "node")])])
        for order in (["leaf", "node"], ["node", "leaf"]):
            self.goes_wrong(copy, [("copy", "from", "to")], order)
            self.goes_wrong(copy, [("copy", "from", "log"), ("copy", "log", "to")], order)

    def test_first_roles_that_make(self):
        for shape in (Both, Renewed):
            catalog = Catalog([Kind("k", [shape("x", "a"), Fresh("p", "a"), Made("y", "b"), Fresh("q", "c")])])
            for waits in ([("k", "x", "y")], [("k", "x", "p"), ("k", "p", "q"), ("k", "q", "y")]):
                for order in itertools.permutations("abc"):
                    if order.index("a") < order.index("b"):
                        self.assertIsNone(wrong_backup(catalog, Waits(waits), list(order)))
                    else:
                        events = self.goes_wrong(catalog, waits, list(order))
                        self.assertEqual(len([event for event in events if event[0] == "do"]), 1)

    def test_first_roles_that_only_read_with_chains_in_both_steps(self):
        catalog = Catalog([
            Kind("look", [Read("x", "a"), Made("y", "b"), Fresh("p", "c"), Fresh("q", "d")]),
            Kind("put", [Fresh("u", "a"), Renewed("v", "b"), Fresh("w", "c")]),
        ])
        waits = [("look", "x", "p"), ("look", "p", "q"), ("look", "q", "y"), ("put", "u", "v"), ("put", "v", "w")]
        for order in itertools.permutations("abcd"):
            if order.index("a") < order.index("b"):
                self.assertIsNone(wrong_backup(catalog, Waits(waits), list(order)))
            else:
                self.goes_wrong(catalog, waits, list(order))

    def test_books_in_all_orders(self):
        for order in itertools.permutations(["leaf", "log", "node"]):
            self.goes_wrong(books(), [], list(order))
            self.goes_wrong(books(), dangers(books()).rows, list(order))

    def test_drawn_catalogs_waits_and_orders(self):
        dice, seen = Dice(111), [0, 0, 0]
        for _ in range(300):
            catalog = wide_catalog(dice, most_kinds=4, groups=["a", "b", "c", "d"])
            before, orders = shape_of(catalog), list(itertools.permutations(catalog.groups()))
            waits = some_waits(dice, catalog, of=2 + dice.below(4))
            waits = waits | dangers(catalog) if dice.below(2) else waits
            rows = waits.rows
            for order in [list(dice.one_of(orders)) for _ in range(3)]:
                given = list(order)
                if is_safe(catalog, rows, order):
                    self.assertIsNone(wrong_backup(catalog, waits, order))
                    seen[0] += 1
                else:
                    self.goes_wrong(catalog, rows, order)
                    seen[1 if exposed_rows(catalog, rows) else 2] += 1
                self.assertEqual((shape_of(catalog), waits.rows, order), (before, rows, given))
            found = backup_order(catalog, waits)
            self.assertEqual(found is None, not any(is_safe(catalog, rows, order) for order in orders))
            if found is not None:
                self.assertIsNone(wrong_backup(catalog, waits, found))
        self.assertGreater(min(seen), 100)

    def test_eight_groups_in_the_wrong_order(self):
        groups = "abcdefgh"
        kinds = [Kind(start, [Both("from", start), Made("to", end)]) for start, end in zip(groups, groups[1:])]
        waits = [(kind.name, "from", "to") for kind in kinds]
        self.assertIsNone(wrong_backup(Catalog(kinds), Waits(waits), list(groups)))
        self.goes_wrong(Catalog(kinds), waits, list(groups[::-1]))
        for at in range(7):
            order = [*groups[:at], groups[at + 1], groups[at], *groups[at + 2:]]
            self.goes_wrong(Catalog(kinds), waits, order)

    def test_a_new_list_each_time(self):
        for catalog, waits, order in [(SPLIT, Waits([]), ["leaf"]), (SPLIT, dangers(SPLIT), ["leaf"])]:
            length = len(wrong_backup(catalog, waits, order))
            wrong_backup(catalog, waits, order).clear()
            self.assertEqual(len(wrong_backup(catalog, waits, order)), length)

    def test_a_run_of_waits_that_are_not_safe_goes_wrong_without_a_backup_too(self):
        self.assertIsNotNone(wrong_run(LOOK, Waits([])))
        self.assertIsNone(wrong_run(LOOK, Waits([("look", "from", "to")])))


class Errors(unittest.TestCase):
    BAD = [[], ["a"], ["a", "b"], ["a", "b", "b"], ["a", "b", "c", "c"], ["a", "b", "c", "d"], ["a", "b", "d"],
           ["A", "b", "c"], ["a", "b", "c", ""]]

    def test_an_order_that_is_wrong(self):
        for rows in ([], [("look", "from", "to")]):
            for order in self.BAD:
                given = list(order)
                with self.assertRaises(BadOrder) as caught:
                    wrong_backup(LOOK, Waits(rows), order)
                self.assertEqual((caught.exception.order, order), (given, given))
                self.assertIsNot(caught.exception.order, order)
        with self.assertRaises(BadOrder):
            wrong_backup(Catalog([]), Waits([]), ["a"])

    def test_a_wait_that_is_not_valid_comes_first(self):
        rows = [("look", "to", "from"), ("look", "from", "by"), ("loop", "from", "to"), ("look", "from", "to")]
        for order in [["a", "b", "c"], *self.BAD]:
            with self.assertRaises(BadWait) as caught:
                wrong_backup(LOOK, Waits(rows), order)
            self.assertEqual(caught.exception.row, ("look", "from", "by"))


if __name__ == "__main__":
    unittest.main()
