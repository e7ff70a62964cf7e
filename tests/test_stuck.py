"""Points 11 and 21: dirty pages that can never be flushed again."""

import unittest

from redopages.kinds import Both, Catalog, Kind, Made, Read
from redopages.store import Store
from redopages.waits import Waits
from samples import Dice, leaf, some_catalog, some_log, some_waits, state_of, stuck_after, version_after

CATALOG = Catalog([
    Kind("split", [Both("old", "leaf"), Made("new", "leaf")]),
    Kind("put", [Made("to", "leaf")]),
    Kind("swap", [Both("a", "leaf"), Both("b", "leaf")]),
    Kind("look", [Read("from", "leaf"), Made("to", "leaf")]),
])
SPLIT = [("split", "old", "new")]


def stored(waits, *steps):
    store = Store(CATALOG, Waits(waits))
    for kind, *numbers in steps:
        store.do(kind, [leaf(number) for number in numbers])
    return store


class NoCycle(unittest.TestCase):
    def test_nothing_is_stuck(self):
        for store in (stored([]), stored(SPLIT), stored([], ("split", 1, 2), ("split", 2, 1)),
                      stored(SPLIT, ("split", 1, 2), ("split", 2, 3), ("split", 1, 3))):
            self.assertEqual(store.stuck(), [])

    def test_a_long_chain(self):
        store = stored(SPLIT, *[("split", number, number + 1) for number in range(90)])
        self.assertEqual(len(store.dirty), 91)
        self.assertEqual(store.stuck(), [])

    def test_two_splits_between_two_pages_with_a_flush_between_them(self):
        store = stored(SPLIT, ("split", 1, 2))
        store.flush(leaf(2))
        store.flush(leaf(1))
        store.do("split", [leaf(2), leaf(1)])
        self.assertEqual(store.stuck(), [])


class Cycle(unittest.TestCase):
    def test_two_steps(self):
        store = stored(SPLIT, ("split", 1, 2), ("split", 2, 1))
        self.assertEqual((store.blockers(leaf(1)), store.blockers(leaf(2))), ([leaf(2)], [leaf(1)]))
        self.assertEqual(store.stuck(), [leaf(1), leaf(2)])
        self.assertEqual(list(store.ready()), [])

    def test_several_steps(self):
        store = stored(SPLIT, ("split", 12, 5), ("split", 5, 9), ("split", 9, 7), ("split", 7, 12))
        self.assertEqual(store.stuck(), [leaf(5), leaf(7), leaf(9), leaf(12)])

    def test_a_cycle_on_the_roles_of_a_kind(self):
        store = stored([("swap", "a", "b"), ("swap", "b", "a")], ("swap", 3, 1))
        self.assertEqual(store.stuck(), [leaf(1), leaf(3)])

    def test_a_page_that_was_only_read_is_not_dirty_until_it_is_made(self):
        store = stored([*SPLIT, ("look", "from", "to")], ("look", 1, 2), ("split", 2, 1))
        self.assertEqual((store.dirty, store.stuck()), ([leaf(1), leaf(2)], [leaf(1), leaf(2)]))
        store = stored([*SPLIT, ("look", "from", "to")], ("split", 2, 1), ("look", 1, 2))
        self.assertEqual((store.dirty, store.stuck()), ([leaf(1), leaf(2)], []))

    def test_a_split_and_its_way_back_after_one_flush(self):
        store = stored(SPLIT, ("split", 1, 2))
        store.flush(leaf(2))
        store.do("split", [leaf(2), leaf(1)])
        self.assertEqual(store.stuck(), [])
        store.do("split", [leaf(1), leaf(2)])
        self.assertEqual(store.stuck(), [leaf(1), leaf(2)])


class Beside(unittest.TestCase):
    def test_pages_that_wait_for_such_a_page(self):
        store = stored(SPLIT, ("split", 5, 6), ("split", 6, 5), ("split", 4, 5), ("split", 3, 4), ("split", 9, 8))
        self.assertEqual(store.dirty, [leaf(number) for number in (3, 4, 5, 6, 8, 9)])
        self.assertEqual(store.stuck(), [leaf(3), leaf(4), leaf(5), leaf(6)])

    def test_pages_for_which_such_a_page_waits(self):
        store = stored(SPLIT, ("split", 1, 2), ("split", 2, 1), ("split", 1, 3), ("split", 3, 4))
        self.assertEqual(store.dirty, [leaf(1), leaf(2), leaf(3), leaf(4)])
        self.assertEqual(store.stuck(), [leaf(1), leaf(2)])

    def test_pages_that_are_flushed_already(self):
        store = stored(SPLIT, ("split", 7, 8))
        store.flush(leaf(8))
        store.flush(leaf(7))
        for numbers in ([1, 2], [2, 1], [3, 4]):
            store.do("split", [leaf(number) for number in numbers])
        store.flush(leaf(4))
        self.assertEqual(store.dirty, [leaf(1), leaf(2), leaf(3)])
        self.assertEqual(store.stuck(), [leaf(1), leaf(2)])

    def test_a_stuck_page_with_a_stamp(self):
        store = stored(SPLIT, ("put", 1))
        store.flush(leaf(1))
        store.do("split", [leaf(1), leaf(2)])
        store.do("split", [leaf(2), leaf(1)])
        self.assertEqual((store.disk[leaf(1)], store.stuck()), (1, [leaf(1), leaf(2)]))

    def test_the_store_does_not_change(self):
        store = stored(SPLIT, ("split", 1, 2), ("split", 2, 1), ("split", 3, 4))
        before = state_of(store)
        store.stuck().clear()
        self.assertEqual(store.stuck(), [leaf(1), leaf(2)])
        self.assertEqual(state_of(store), before)


class Many(unittest.TestCase):
    def test_against_the_words_of_the_document(self):
        dice, found = Dice(13), [0, 0]
        for _ in range(250):
            catalog = some_catalog(dice)
            store = Store(catalog, some_waits(dice, catalog, of=2))
            for step in some_log(dice, catalog, most=6):
                store.do(step.kind.name, step.pages)
                for page in list(store.ready()):
                    if dice.below(3) == 0 and not store.blockers(page):
                        store.flush(page)
            steps = list(store.log)
            stamps = {page: store.disk[page] for page in store.log.all_pages()}
            due = stuck_after(steps, store.waits, stamps)
            self.assertEqual(store.stuck(), due)
            self.assertEqual([page for page in due if version_after(steps, page) == stamps[page]], [])
            found[bool(due)] += 1
        self.assertGreater(min(found), 20)


if __name__ == "__main__":
    unittest.main()
