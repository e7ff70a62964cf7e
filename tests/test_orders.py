"""Points 18, 24 and 25: orders in which backups are safe."""

import itertools
import unittest

from redopages.backups import Backup, backup_order, wrong_backup
from redopages.errors import BadOrder
from redopages.images import cheapest_images, with_images
from redopages.judge import dangers, least_waits, wrong_run
from redopages.kinds import Both, Catalog, Fresh, Kind, Made, Read
from redopages.store import Store
from redopages.waits import Waits
from models import (backup_ends, disk_from, drawn_backup, edges_by_word, exposed_rows, is_right, leads_forward,
                    live_rows, shape_of, short_logs, wide_catalog)
from samples import Dice, books, some_catalog, some_waits, why_wrong

SPLIT = Catalog([Kind("split", [Both("old", "leaf"), Made("new", "leaf")])])
LOOK = Catalog([Kind("look", [Both("from", "a"), Made("to", "b")]), Kind("see", [Both("from", "b"), Made("to", "c")])])
LOOKS = [("look", "from", "to"), ("see", "from", "to")]


def safe_orders(catalog, rows):
    """Point 25: all orders of the groups that are safe."""
    if exposed_rows(catalog, rows):
        return []
    edges = edges_by_word(catalog, live_rows(catalog, rows))
    return [list(order) for order in itertools.permutations(catalog.groups()) if leads_forward(order, edges)]


class Orders(unittest.TestCase):
    def found(self, catalog, rows):
        """Check the order against all orders tried one by one, and return it."""
        before, waits = shape_of(catalog), Waits(rows)
        order = backup_order(catalog, waits)
        self.assertEqual((shape_of(catalog), waits.rows), (before, tuple(sorted(set(rows)))))
        safe = safe_orders(catalog, rows)
        if safe:
            self.assertIs(type(order), list)
            self.assertIn(order, safe)
        else:
            self.assertIsNone(order)
        return order

    def test_a_catalog_without_groups(self):
        self.assertEqual(self.found(Catalog([]), []), [])

    def test_waits_that_are_not_safe(self):
        self.assertIsNone(self.found(LOOK, []))
        for row in LOOKS:
            self.assertIsNone(self.found(LOOK, [row]))
        self.assertIsNone(self.found(books(), []))

    def test_along_the_dangers(self):
        self.assertEqual(self.found(LOOK, LOOKS), ["a", "b", "c"])
        turned = Catalog([Kind("look", [Both("from", "b"), Made("to", "a")]), *LOOK.kinds[1:]])
        self.assertEqual(self.found(turned, LOOKS)[0], "b")

    def test_a_danger_within_one_group(self):
        self.assertIsNone(self.found(SPLIT, [("split", "old", "new")]))
        self.assertEqual(self.found(SPLIT, [("split", "old", "new"), ("split", "new", "old")]), ["leaf"])

    def test_dangers_around_a_cycle(self):
        kinds = [Kind(start + end, [Both("from", start), Made("to", end)]) for start, end in ["ab", "bc", "ca"]]
        waits = [(kind.name, "from", "to") for kind in kinds]
        self.assertIsNone(self.found(Catalog(kinds), waits))
        self.assertEqual(self.found(Catalog(kinds[1:]), waits[1:]), ["b", "c", "a"])
        self.assertEqual(self.found(Catalog(kinds), [*waits, ("ca", "to", "from")]), ["a", "b", "c"])

    def test_dangers_that_are_not_live_do_not_count(self):
        look = Kind("look", [Read("from", "a"), Made("to", "a")])
        ring = [("look", "from", "to"), ("ring", "p", "q"), ("ring", "q", "p")]
        for catalog, order in [(Catalog([look]), None),
                               (Catalog([Kind("look", [Read("from", "a"), Made("to", "b")]),
                                         Kind("back", [Read("from", "b"), Made("to", "a")])]), None)]:
            self.assertEqual(self.found(catalog, [(kind.name, "from", "to") for kind in catalog]), order)
        catalog = Catalog([Kind("look", [Read("from", "a"), Made("to", "b")]),
                           Kind("ring", [Both("p", "a"), Fresh("q", "b")])])
        self.assertEqual(self.found(catalog, ring[:1]), ["a", "b"])
        self.assertIn(self.found(catalog, ring), [["a", "b"], ["b", "a"]])

    def test_all_groups_also_those_without_dangers(self):
        catalog = Catalog([Kind("put", [Fresh("to", "z"), Fresh("on", "a"), Read("by", "m")])])
        self.assertEqual(sorted(self.found(catalog, [])), ["a", "m", "z"])

    def test_drawn_catalogs(self):
        dice, seen = Dice(101), [0, 0, 0]
        for _ in range(300):
            catalog = wide_catalog(dice, most_roles=3, groups=["a", "b", "c", "d", "e"])
            waits = some_waits(dice, catalog, of=2 + dice.below(3))
            for lot in (waits, waits | dangers(catalog)):
                order = self.found(catalog, lot.rows)
                seen[0 if order is not None else 1 if wrong_run(catalog, lot) is None else 2] += 1
        self.assertGreater(min(seen), 30)

    def test_eight_groups(self):
        groups = "hgfedcba"
        kinds = [Kind(start, [Both("from", start), Made("to", end)]) for start, end in zip(groups, groups[1:])]
        waits = Waits([(kind.name, "from", "to") for kind in kinds])
        self.assertEqual(backup_order(Catalog(kinds), waits), list(groups))

    def test_a_new_list_each_time(self):
        backup_order(LOOK, Waits(LOOKS)).clear()
        self.assertEqual(backup_order(LOOK, Waits(LOOKS)), ["a", "b", "c"])


class Backups(unittest.TestCase):
    def test_redo_from_each_backup_after_short_runs(self):
        """Point 25 by trying all runs with a backup that do one of the short logs."""
        dice, seen = Dice(102), [0, 0]
        for _ in range(40):
            catalog = some_catalog(dice, most_roles=2)
            waits = some_waits(dice, catalog, of=2) | Waits(dangers(catalog).rows[:dice.below(3)])
            for order in itertools.permutations(catalog.groups()):
                wrong = False
                for log in short_logs(catalog):
                    for stamps in backup_ends(log, waits, order):
                        wrong = wrong or why_wrong(log, disk_from(log, stamps)) is not None
                self.assertEqual(wrong, list(order) not in safe_orders(catalog, waits.rows))
                self.assertEqual(wrong, wrong_backup(catalog, waits, list(order)) is not None)
                seen[wrong] += 1
        self.assertGreater(min(seen), 10)

    def test_redo_is_right_after_drawn_runs_with_a_backup(self):
        dice, many, copied = Dice(103), 0, 0
        while many < 120:
            catalog = wide_catalog(dice)
            waits = some_waits(dice, catalog, of=4) | dangers(catalog)
            order = backup_order(catalog, waits)
            if order is not None and len(dangers(catalog)) > 0:
                many += 1
                for _ in range(3):
                    store, backup = drawn_backup(dice, catalog, waits, order)
                    self.assertTrue(is_right(store.log, backup.copied()))
                    self.assertTrue(is_right(store.log, store.crash()))
                    copied += len(backup.copied())
        self.assertGreater(copied, 100)

    def test_with_cheapest_images_and_least_waits(self):
        dice = Dice(104)
        for _ in range(80):
            catalog = wide_catalog(dice, most_kinds=4)
            slots = cheapest_images(catalog, {group: 1 + dice.below(5) for group in catalog.groups()})[1]
            found = with_images(catalog, slots)
            least = least_waits(found)
            store, backup = drawn_backup(dice, found, least, backup_order(found, least), events=30)
            self.assertTrue(is_right(store.log, backup.copied()))
            self.assertEqual(store.stuck(), [])

    def test_the_order_is_one_that_a_backup_takes(self):
        order = backup_order(LOOK, Waits(LOOKS))
        self.assertEqual(Backup(Store(LOOK, Waits(LOOKS)), order).current, "a")
        with self.assertRaises(BadOrder):
            Backup(Store(SPLIT, Waits([])), order)


if __name__ == "__main__":
    unittest.main()
