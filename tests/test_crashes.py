"""Points 11 to 13: the disks that a log can leave under a lot of waits, and runs that leave them."""

import types
import unittest

from redopages.errors import BadStamp, BadWait
from redopages.kinds import Both, Catalog, Fresh, Kind, Made, Read
from redopages.logs import Log
from redopages.store import Disk, Store, crash_run, crash_states
from redopages.waits import Waits
from samples import Dice, all_ends, books, disk_of, leaf, log_of, node, picked, some_catalog, some_log, some_waits

SPLIT = Waits([("split", "old", "new")])
LEAVES = Catalog([
    Kind("split", [Both("old", "leaf"), Made("new", "leaf")]),
    Kind("look", [Read("from", "leaf"), Made("to", "leaf")]),
    Kind("ring", [Both("a", "leaf"), Both("b", "leaf"), Fresh("c", "leaf")]),
])
RING = Waits([("ring", "a", "b"), ("ring", "b", "a")])


def leaves(*steps):
    """A log over the catalog LEAVES with these steps, each a kind's name and numbers of leaves."""
    return log_of(LEAVES, *[(kind, *[leaf(number) for number in numbers]) for kind, *numbers in steps])


class Runs(unittest.TestCase):
    def played(self, log, waits, stamps):
        """Check that the run is allowed, does exactly the steps of the log and ends with the disk; return it."""
        disk = disk_of(stamps)
        run = crash_run(log, waits, disk)
        self.assertIs(type(run), list)
        store = Store(log.catalog, waits)
        self.assertEqual(store.play(run), len(run))
        self.assertIs(store.disk == disk, True)
        self.assertIs(disk == disk_of(stamps), True)
        self.assertEqual(store.log.lines(), log.lines())
        for event in run:
            self.assertIs(type(event), tuple)
        return run

    def test_an_empty_log(self):
        self.assertEqual(crash_run(Log(books()), Waits([]), Disk()), [])
        self.assertEqual(crash_run(log=Log(LEAVES), waits=SPLIT, disk=disk_of({leaf(1): 0})), [])

    def test_without_flushes_the_run_is_the_steps(self):
        log = leaves(("split", 1, 2), ("look", 1, 3))
        self.assertEqual(crash_run(log, SPLIT, Disk()),
                         [("do", "split", (leaf(1), leaf(2))), ("do", "look", (leaf(1), leaf(3)))])

    def test_the_one_run_to_a_disk(self):
        log = leaves(("split", 1, 2))
        self.assertEqual(crash_run(log, SPLIT, disk_of({leaf(1): 1, leaf(2): 1})),
                         [("do", "split", (leaf(1), leaf(2))), ("flush", leaf(2)), ("flush", leaf(1))])
        self.assertIsNone(crash_run(log, SPLIT, disk_of({leaf(1): 1})))
        self.assertIsNone(crash_run(log, Waits([("split", "new", "old")]), disk_of({leaf(2): 1})))
        self.played(log, SPLIT, {leaf(2): 1})
        self.played(log, Waits([]), {leaf(1): 1})

    def test_an_older_version_is_flushed_before_the_next_one(self):
        log = leaves(("look", 0, 1), ("look", 0, 1), ("look", 0, 1))
        for stamp in range(4):
            run = self.played(log, Waits([]), {leaf(1): stamp})
            self.assertEqual(len([event for event in run if event[0] == "do"]), 3)

    def test_a_page_that_is_read_waits_with_its_later_versions(self):
        log, waits = leaves(("look", 1, 2), ("look", 0, 1)), Waits([("look", "from", "to")])
        self.assertIsNone(crash_run(log, waits, disk_of({leaf(1): 2})))
        self.played(log, waits, {leaf(1): 2, leaf(2): 1})
        self.played(log, waits, {leaf(2): 1})

    def test_a_chain_of_waits_in_one_step_and_over_several(self):
        waits = Waits([("all", "d", "b"), ("all", "b", "f"), ("all", "f", "c")])
        log = log_of(books(), ("all", leaf(3), node(0), leaf(1), leaf(2), node(1), ("log", 0)))
        self.played(log, waits, {leaf(2): 1, node(0): 1, ("log", 0): 1, leaf(1): 1})
        self.assertIsNone(crash_run(log, waits, disk_of({leaf(2): 1, node(0): 1, leaf(1): 1})))
        log = leaves(("split", 1, 2), ("split", 2, 3), ("split", 3, 4))
        self.played(log, SPLIT, {leaf(number): min(number, 3) for number in (1, 2, 3, 4)})
        self.assertIsNone(crash_run(log, SPLIT, disk_of({leaf(2): 2, leaf(1): 1})))

    def test_pages_of_a_cycle_are_not_flushed_from_the_step_on(self):
        log = leaves(("look", 0, 1), ("ring", 1, 2, 3), ("look", 0, 2))
        for stamps in ({}, {leaf(1): 1}, {leaf(3): 2}, {leaf(1): 1, leaf(3): 2}):
            self.played(log, RING, stamps)
        for stamps in ({leaf(1): 2, leaf(2): 2}, {leaf(1): 2, leaf(2): 3}, {leaf(2): 3}, {leaf(2): 2}):
            self.assertIsNone(crash_run(log, RING, disk_of(stamps)))

    def test_pages_that_wait_for_a_cycle_are_not_flushed_either(self):
        log = leaves(("ring", 1, 2, 3))
        waits = Waits([*RING, ("ring", "c", "a")])
        self.assertIsNone(crash_run(log, waits, disk_of({leaf(1): 1, leaf(2): 1, leaf(3): 1})))
        self.assertEqual(list(crash_states(log, waits)), [(0, 0, 0)])

    def test_the_log_and_the_disk_are_not_changed(self):
        log, disk = leaves(("split", 1, 2), ("split", 2, 1)), disk_of({leaf(2): 1, leaf(1): 1})
        lines = log.lines()
        for waits in (SPLIT, Waits([])):
            crash_run(log, waits, disk)
            list(crash_states(log, waits))
            self.assertEqual((log.lines(), len(log), log.versions(leaf(1))), (lines, 2, [0, 1, 2]))
            self.assertIs(disk == disk_of({leaf(2): 1, leaf(1): 1}), True)

    def test_a_new_list_each_time(self):
        log = leaves(("split", 1, 2))
        crash_run(log, SPLIT, Disk()).clear()
        self.assertEqual(len(crash_run(log, SPLIT, Disk())), 1)
        crash_run(Log(LEAVES), SPLIT, Disk()).append("x")
        self.assertEqual(crash_run(Log(LEAVES), SPLIT, Disk()), [])

    def test_a_log_of_ninety_nine_steps(self):
        log = leaves(*[("split", number % 9, (number + 1) % 9) for number in range(99)])
        stamps = {page: log.versions(page)[-1] for page in log.all_pages()}
        self.played(log, SPLIT, stamps)
        self.assertIsNone(crash_run(log, Waits([*SPLIT, ("split", "new", "old")]), disk_of(stamps)))


class Wrong(unittest.TestCase):
    def raised(self, error, log, waits, stamps):
        with self.assertRaises(error) as caught:
            crash_run(log, waits, disk_of(stamps))
        return vars(caught.exception)

    def test_a_wait_that_is_not_valid_comes_first(self):
        rows = [("swap", "old", "new"), ("split", "old", "up"), ("look", "to", "from"), ("split", "from", "new")]
        for log in (Log(LEAVES), leaves(("split", 1, 2))):
            for stamps in ({}, {leaf(1): 7}, {node(8): 1}):
                for row in rows:
                    self.assertEqual(self.raised(BadWait, log, Waits([row]), stamps), {"row": row})
                self.assertEqual(self.raised(BadWait, log, Waits(rows), stamps), {"row": min(rows)})

    def test_a_stamp_that_is_not_a_version(self):
        log = leaves(("look", 0, 1), ("split", 2, 3), ("look", 2, 1))
        for page, stamp in [(leaf(1), 2), (leaf(1), 4), (leaf(2), 1), (leaf(2), 3), (leaf(0), 1), (leaf(9), 2),
                            (("root", 0), 1)]:
            for waits in (Waits([]), SPLIT):
                self.assertEqual(self.raised(BadStamp, log, waits, {page: stamp}), {"page": page, "version": stamp})

    def test_the_first_page_in_ascending_order(self):
        log = leaves(("look", 0, 1), ("split", 2, 3))
        bad = [(leaf(2), 1), (leaf(10), 4), (node(0), 9), (leaf(3), 3)]
        self.assertEqual(self.raised(BadStamp, log, SPLIT, {leaf(1): 1, **dict(bad)}), {"page": leaf(2), "version": 1})
        self.assertEqual(self.raised(BadStamp, log, SPLIT, dict(bad[1:])), {"page": leaf(3), "version": 3})
        self.assertEqual(self.raised(BadStamp, log, SPLIT, dict(bad[1:3])), {"page": leaf(10), "version": 4})
        self.assertEqual(self.raised(BadStamp, log, SPLIT, {node(0): 9, ("a", 0): 1}), {"page": ("a", 0), "version": 1})

    def test_an_empty_log_with_a_stamp(self):
        self.assertEqual(self.raised(BadStamp, Log(LEAVES), Waits([]), {leaf(1): 1}), {"page": leaf(1), "version": 1})


class States(unittest.TestCase):
    def test_an_empty_log(self):
        self.assertEqual(list(crash_states(Log(LEAVES), SPLIT)), [()])
        self.assertEqual(list(crash_states(log=Log(Catalog([])), waits=Waits([]))), [()])

    def test_it_is_a_generator(self):
        states = crash_states(leaves(("split", 1, 2)), SPLIT)
        self.assertIsInstance(states, types.GeneratorType)
        self.assertEqual([next(states), next(states), next(states), next(states, None)], [(0, 0), (0, 1), (1, 1), None])

    def test_without_waits_all_versions_of_all_pages(self):
        log = leaves(("split", 1, 2), ("look", 0, 2))
        self.assertEqual(list(crash_states(log, Waits([]))),
                         [(0, 0, 0), (0, 0, 1), (0, 0, 2), (0, 1, 0), (0, 1, 1), (0, 1, 2)])

    def test_with_waits(self):
        log = leaves(("split", 1, 2), ("split", 2, 1))
        self.assertEqual(list(crash_states(log, SPLIT)), [(0, 0), (0, 1), (1, 1), (2, 1), (2, 2)])

    def test_with_a_cycle_on_the_roles_of_a_kind(self):
        log = leaves(("look", 0, 1), ("ring", 1, 2, 3), ("look", 0, 2))
        self.assertEqual(list(crash_states(log, RING)), [(0, 0, 0, 0), (0, 0, 0, 2), (0, 1, 0, 0), (0, 1, 0, 2)])

    def test_many_disks(self):
        log = leaves(*[("look", 0, number) for number in range(1, 9)])
        found = list(crash_states(log, Waits([("look", "from", "to")])))
        self.assertEqual((len(found), len(set(found))), (256, 256))
        self.assertEqual(found, sorted(found))
        log = leaves(*[("look", 0, 1)] * 99, ("split", 2, 3))
        self.assertEqual(len(list(crash_states(log, SPLIT))), 300)


class Many(unittest.TestCase):
    def compare(self, log, waits):
        """Compare with all runs tried one by one; return how many disks can be left, and how many can't."""
        due, pages = all_ends(log, waits), log.all_pages()
        self.assertEqual(list(crash_states(log, waits)), due)
        rows = picked([log.versions(page) for page in pages])
        for row in rows:
            disk = disk_of(dict(zip(pages, row)))
            run = crash_run(log, waits, disk)
            self.assertEqual(run is not None, row in due)
            if run is not None:
                store = Store(log.catalog, waits)
                store.play(run)
                self.assertIs(store.disk == disk, True)
                self.assertEqual(store.log.lines(), log.lines())
        return len(due), len(rows) - len(due)

    def test_against_all_runs(self):
        dice, cycles, found = Dice(17), 0, [0, 0]
        for _ in range(300):
            catalog = some_catalog(dice, most_roles=4)
            waits = some_waits(dice, catalog, of=1 + dice.below(3))
            log = some_log(dice, catalog)
            left, never = self.compare(log, waits)
            found[never > 0] += 1
            cycles += any(waits.blocked(step.kind.name, role.name) for step in log for role in step.kind.roles)
        self.assertGreater(min(cycles, 300 - cycles, *found), 40)

    def test_against_all_runs_of_one_kind_with_several_waits(self):
        kind = Kind("k", [Both("x", "a"), Both("y", "a"), Made("z", "a")])
        waits = [("k", first, second) for first in "xyz" for second in "xyz" if first != second]
        catalog, dice = Catalog([kind]), Dice(19)
        for some in picked([[0, 1]] * len(waits)):
            lot = Waits([row for row, taken in zip(waits, some) if taken])
            self.compare(some_log(dice, catalog, most=3, numbers=4), lot)


if __name__ == "__main__":
    unittest.main()
