"""Points 10 to 19 over the whole program: under safe waits redo is right after every run."""

import unittest

from redopages.judge import dangers, exposed, live, wrong_run
from redopages.kinds import Both, Catalog, Fresh, Kind, Made, Read, Renewed
from redopages.logs import Contents
from redopages.redo import check, redo
from redopages.store import Store, crash_run, crash_states
from redopages.waits import Waits
from models import blocked_roles, disk_from, drawn_run, is_right, wide_catalog
from samples import Dice, books, some_catalog, some_log, some_waits, why_wrong


def drawn_safe_waits(dice, catalog):
    """Waits that are safe: drawn ones, those that lead along each danger, or both, as they may come."""
    drawn = some_waits(dice, catalog, of=2 + dice.below(4))
    for waits in [drawn, drawn | exposed(catalog, drawn), drawn | dangers(catalog)][dice.below(3):]:
        if wrong_run(catalog, waits) is None:
            return waits
    raise AssertionError("all dangers as waits are safe")


class Safe(unittest.TestCase):
    def test_after_each_event_of_drawn_runs(self):
        dice, rings, flushed = Dice(31), 0, 0
        for _ in range(150):
            catalog = wide_catalog(dice)
            waits = drawn_safe_waits(dice, catalog)
            rings += len(blocked_roles(waits.rows)) > 0
            for _ in range(3):
                store = drawn_run(dice, catalog, waits, events=8 + dice.below(12))
                self.assertTrue(is_right(store.log, store.crash()))
                flushed += len(store.disk)
        self.assertGreater(rings, 30)
        self.assertGreater(flushed, 100)

    def test_from_each_disk_that_a_log_can_leave(self):
        dice, rings, many = Dice(32), 0, 0
        for _ in range(150):
            catalog = some_catalog(dice)
            waits = drawn_safe_waits(dice, catalog)
            log = some_log(dice, catalog)
            rings += len(blocked_roles(waits.rows)) > 0
            for stamps in crash_states(log, waits):
                many += 1
                self.assertTrue(is_right(log, disk_from(log, stamps)))
        self.assertGreater(rings, 30)
        self.assertGreater(many, 600)

    def test_the_run_to_each_such_disk_and_redo_from_it(self):
        dice = Dice(33)
        for _ in range(40):
            catalog = some_catalog(dice, most_roles=2)
            waits = drawn_safe_waits(dice, catalog)
            log = some_log(dice, catalog)
            for stamps in crash_states(log, waits):
                disk, store, contents = disk_from(log, stamps), Store(catalog, waits), Contents()
                store.play(crash_run(log, waits, disk))
                self.assertIs(store.disk == disk, True)
                state = redo(store.log, store.crash(), contents)
                for page in log.all_pages():
                    self.assertEqual(state.stamp_of(page), log.versions(page)[-1])
                self.assertIsNone(why_wrong(store.log, disk))

    def test_waits_that_are_not_safe_let_some_disk_go_wrong(self):
        dice, many = Dice(34), 0
        for _ in range(150):
            catalog = wide_catalog(dice)
            waits = some_waits(dice, catalog, of=3)
            run = wrong_run(catalog, waits)
            if run is not None:
                many += 1
                store = Store(catalog, waits)
                store.play(run)
                self.assertIsNotNone(why_wrong(store.log, store.crash()))
                self.assertIsNotNone(crash_run(store.log, waits, store.crash()))
        self.assertGreater(many, 40)

    def test_cycles_of_waits_in_a_kind(self):
        catalog = Catalog([
            Kind("swap", [Both("a", "leaf"), Both("b", "leaf"), Renewed("c", "node")]),
            Kind("copy", [Read("from", "leaf"), Made("to", "node")]),
            Kind("put", [Fresh("to", "leaf")]),
        ])
        ring = [("swap", "a", "b"), ("swap", "b", "a")]
        self.assertEqual(exposed(catalog, Waits(ring)).rows,
                         (("copy", "from", "to"), ("swap", "c", "a"), ("swap", "c", "b")))
        waits = Waits([*ring, ("copy", "from", "to"), ("swap", "c", "a")])
        self.assertIsNone(wrong_run(catalog, waits))
        self.assertEqual(live(catalog, waits).rows, (("copy", "from", "to"),))
        dice, stuck = Dice(35), 0
        for _ in range(100):
            store = drawn_run(dice, catalog, waits, events=15, numbers=4)
            self.assertTrue(is_right(store.log, store.crash()))
            stuck += len(store.stuck()) > 0
        self.assertGreater(stuck, 10)

    def test_long_runs_of_a_large_catalog(self):
        dice = Dice(36)
        waits = dangers(books())
        for _ in range(3):
            store = drawn_run(dice, books(), waits, events=90, numbers=9)
            self.assertGreater(len(store.log), 20)
            self.assertIsNone(check(store.log, store.crash(), Contents()))

    def test_no_dangers(self):
        catalog = Catalog([Kind("put", [Fresh("to", "a"), Renewed("on", "b")]),
                           Kind("see", [Read("from", "c"), Made("to", "a")])])
        self.assertIsNone(wrong_run(catalog, Waits([])))
        dice = Dice(37)
        for _ in range(20):
            store = drawn_run(dice, catalog, Waits([]))
            self.assertTrue(is_right(store.log, store.crash()))


if __name__ == "__main__":
    unittest.main()
