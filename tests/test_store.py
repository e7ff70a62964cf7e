"""Points 10 to 12: blockers, allowed flushes, dirty and ready pages, and crashes."""

import unittest

from redopages.errors import BadStep, BadWait, Held, NoKind, RedoError
from redopages.kinds import Both, Catalog, Kind, Made, Read
from redopages.logs import Log
from redopages.store import Disk, Store
from redopages.waits import Waits
from samples import (Dice, blockers_after, books, leaf, node, some_catalog, some_log, some_waits, state_of,
                     version_after)

SPLITS = Catalog([Kind("split", [Both("old", "leaf"), Made("new", "leaf")])])
OLD_NEW = Waits([("split", "old", "new")])


def stored(waits, *steps):
    """A store over the catalog books with these waits and steps."""
    store = Store(books(), Waits(waits))
    for kind, *pages in steps:
        store.do(kind, pages)
    return store


class Created(unittest.TestCase):
    def test_the_attributes(self):
        catalog, waits = books(), Waits([("copy", "from", "to")])
        store = Store(catalog, waits)
        self.assertIs(store.catalog, catalog)
        self.assertIs(store.waits, waits)
        self.assertIs(type(store.log), Log)
        self.assertIs(type(store.disk), Disk)
        self.assertIs(store.log.catalog, catalog)
        self.assertEqual((len(store.log), len(store.disk)), (0, 0))
        self.assertEqual((store.dirty, list(store.ready()), store.stuck()), ([], [], []))
        self.assertEqual(len(Store(catalog=Catalog([]), waits=Waits([])).log), 0)

    def test_bad_waits(self):
        rows = [("swap", "old", "new"), ("split", "up", "no"), ("split", "no", "up"), ("copy", "to", "from"),
                ("count", "sum", "low")]
        for row in rows:
            with self.assertRaises(BadWait) as caught:
                Store(books(), Waits([row, ("split", "old", "new")]))
            self.assertEqual(caught.exception.row, row)
        with self.assertRaises(BadWait) as caught:
            Store(books(), Waits(rows))
        self.assertEqual(caught.exception.row, min(rows))


class Do(unittest.TestCase):
    def test_steps_get_their_numbers(self):
        store = stored([])
        pages = [leaf(1), leaf(2)]
        self.assertEqual(store.do("put", (leaf(1),)), 1)
        self.assertEqual(store.do("copy", pages), 2)
        self.assertEqual(pages, [leaf(1), leaf(2)])
        pages[0] = leaf(9)
        self.assertEqual(store.do(kind="put", pages=[leaf(2)]), 3)
        self.assertEqual([step.pages for step in store.log], [(leaf(1),), (leaf(1), leaf(2)), (leaf(2),)])
        self.assertEqual(len(store.disk), 0)

    def test_the_errors_of_the_log(self):
        store = stored([], ("put", leaf(1)))
        store.flush(leaf(1))
        before = state_of(store)
        for kind, pages, error, attributes in [
            ("swap", [leaf(1)], NoKind, {"name": "swap"}),
            ("put", [], BadStep, {"kind": "put", "at": -1}),
            ("put", [node(1)], BadStep, {"kind": "put", "at": 0}),
            ("copy", [leaf(1), leaf(1)], BadStep, {"kind": "copy", "at": 1}),
            ("copy", [leaf(1), leaf(10000)], BadStep, {"kind": "copy", "at": 1}),
        ]:
            with self.assertRaises(error) as caught:
                store.do(kind, pages)
            self.assertEqual(vars(caught.exception), attributes)
            self.assertEqual(state_of(store), before)


class Blockers(unittest.TestCase):
    def test_the_store_of_the_document(self):
        store = Store(SPLITS, OLD_NEW)
        self.assertEqual(store.do("split", [leaf(0), leaf(1)]), 1)
        self.assertEqual((store.blockers(leaf(0)), list(store.ready())), ([leaf(1)], [leaf(1)]))
        with self.assertRaises(Held) as caught:
            store.flush(leaf(0))
        self.assertEqual((caught.exception.page, caught.exception.behind), (leaf(0), [leaf(1)]))

    def test_without_waits_there_are_none(self):
        store = stored([], ("split", leaf(1), leaf(2), node(1)), ("copy", leaf(2), leaf(3)))
        for page in (leaf(1), leaf(2), leaf(3), node(1), leaf(8), ("root", -1)):
            self.assertEqual(store.blockers(page), [])

    def test_several_waits_of_a_step_ascending(self):
        waits = [("all", "d", role) for role in "bcef"]
        store = stored(waits, ("all", leaf(3), node(9), leaf(2), leaf(1), node(8), ("log", 0)))
        self.assertEqual(store.blockers(leaf(1)), [leaf(2), ("log", 0), node(8), node(9)])
        for page in (leaf(2), node(9), node(8), ("log", 0), leaf(3)):
            self.assertEqual(store.blockers(page), [])
        store.flush(node(8))
        self.assertEqual(store.blockers(leaf(1)), [leaf(2), ("log", 0), node(9)])

    def test_several_steps_name_a_blocker_once(self):
        waits = [("split", "old", "new"), ("split", "old", "up"), ("copy", "from", "to")]
        store = stored(waits, ("split", leaf(5), leaf(3), node(0)), ("split", leaf(5), leaf(3), node(1)),
                       ("split", leaf(5), leaf(2), node(0)))
        self.assertEqual(store.blockers(leaf(5)), [leaf(2), leaf(3), node(0), node(1)])

    def test_a_chain_has_only_the_pages_next_to_it(self):
        store = Store(SPLITS, OLD_NEW)
        for number in (1, 2, 3):
            store.do("split", [leaf(number), leaf(number + 1)])
        found = [store.blockers(leaf(number)) for number in (1, 2, 3, 4)]
        self.assertEqual(found, [[leaf(2)], [leaf(3)], [leaf(4)], []])
        for number in (4, 3, 2, 1):
            self.assertEqual(list(store.ready()), [leaf(number)])
            self.assertEqual(store.blockers(leaf(number)), [])
            store.flush(leaf(number))
        self.assertEqual(store.dirty, [])

    def test_the_blocker_needs_a_stamp_of_at_least_the_step(self):
        store = Store(SPLITS, OLD_NEW)
        store.do("split", [leaf(7), leaf(1)])
        store.flush(leaf(1))
        store.do("split", [leaf(0), leaf(1)])
        self.assertEqual(store.blockers(leaf(0)), [leaf(1)])
        self.assertEqual(store.blockers(leaf(7)), [])
        store.flush(leaf(1))
        self.assertEqual(store.blockers(leaf(0)), [])

    def test_steps_after_the_current_version_do_not_count(self):
        waits = [("copy", "from", "to")]
        store = stored(waits, ("put", leaf(1)), ("copy", leaf(1), leaf(2)))
        self.assertEqual(store.blockers(leaf(1)), [])
        self.assertEqual(store.flush(leaf(1)), 1)
        self.assertEqual(store.do("put", [leaf(1)]), 3)
        self.assertEqual(store.blockers(leaf(1)), [leaf(2)])
        with self.assertRaises(Held):
            store.flush(leaf(1))

    def test_only_waits_of_the_kind_of_the_step_count(self):
        catalog = Catalog([Kind(name, [Both("x", "leaf"), Both("y", "leaf")]) for name in ("a", "b")])
        store = Store(catalog, Waits([("a", "x", "y"), ("b", "y", "x")]))
        store.do("a", [leaf(1), leaf(2)])
        store.do("b", [leaf(3), leaf(4)])
        self.assertEqual([store.blockers(leaf(number)) for number in (1, 2, 3, 4)], [[leaf(2)], [], [], [leaf(3)]])

    def test_new_lists_each_time(self):
        store = Store(SPLITS, OLD_NEW)
        store.do("split", [leaf(0), leaf(1)])
        store.blockers(leaf(0)).clear()
        store.dirty.clear()
        with self.assertRaises(Held) as caught:
            store.flush(leaf(0))
        caught.exception.behind.clear()
        self.assertEqual(store.blockers(leaf(0)), [leaf(1)])
        self.assertEqual(store.dirty, [leaf(0), leaf(1)])


class Flush(unittest.TestCase):
    def test_it_returns_the_stamp(self):
        store = stored([], ("copy", leaf(1), leaf(2)), ("put", leaf(2)), ("put", leaf(3)))
        self.assertEqual([store.flush(page) for page in (leaf(2), leaf(3), leaf(2))], [2, 3, 2])
        self.assertEqual([store.disk[leaf(number)] for number in (1, 2, 3)], [0, 2, 3])
        store.do("put", [leaf(2)])
        self.assertEqual(store.disk[leaf(2)], 2)
        self.assertEqual(store.flush(page=leaf(2)), 4)

    def test_pages_that_no_step_made(self):
        store = stored([("copy", "from", "to")], ("copy", leaf(1), leaf(2)))
        for page in (leaf(1), leaf(9), ("root", 3)):
            self.assertEqual(store.flush(page), 0)
            self.assertIs(page in store.disk, False)
        self.assertEqual(len(store.disk), 0)

    def test_pages_that_are_not_dirty(self):
        store = Store(SPLITS, OLD_NEW)
        store.do("split", [leaf(0), leaf(1)])
        store.flush(leaf(1))
        store.flush(leaf(0))
        before = state_of(store)
        self.assertEqual((store.flush(leaf(0)), store.flush(leaf(1))), (1, 1))
        self.assertEqual(state_of(store), before)

    def test_held_changes_nothing(self):
        store = stored([("split", "old", "new"), ("split", "old", "up")], ("split", leaf(4), leaf(2), node(1)))
        before = state_of(store)
        with self.assertRaises(Held) as caught:
            store.flush(leaf(4))
        self.assertIsInstance(caught.exception, RedoError)
        self.assertEqual(vars(caught.exception), {"page": leaf(4), "behind": [leaf(2), node(1)]})
        self.assertEqual(state_of(store), before)
        store.flush(leaf(2))
        with self.assertRaises(Held) as caught:
            store.flush(leaf(4))
        self.assertEqual(caught.exception.behind, [node(1)])
        store.flush(node(1))
        self.assertEqual(store.flush(leaf(4)), 1)


class DirtyAndReady(unittest.TestCase):
    def test_dirty_pages_ascending(self):
        store = stored([], ("copy", leaf(5), leaf(10)), ("put", leaf(9)), ("guess", leaf(2), node(0)))
        self.assertEqual(store.dirty, [leaf(2), leaf(9), leaf(10), node(0)])
        store.flush(leaf(9))
        self.assertEqual(store.dirty, [leaf(2), leaf(10), node(0)])
        store.do("put", [leaf(9)])
        self.assertEqual(store.dirty, [leaf(2), leaf(9), leaf(10), node(0)])

    def test_dirty_is_a_property_and_ready_a_generator(self):
        self.assertIs(type(vars(Store)["dirty"]), property)
        ready = stored([], ("put", leaf(1))).ready()
        self.assertIs(iter(ready), ready)
        self.assertEqual((next(ready), next(ready, None)), (leaf(1), None))

    def test_ready_pages_ascending(self):
        store = stored([("merge", "e", "d")], ("merge", leaf(1), leaf(2), node(1), leaf(9), node(0)),
                       ("put", leaf(10)), ("put", leaf(3)))
        self.assertEqual(list(store.ready()), [leaf(3), leaf(9), leaf(10)])
        store.flush(leaf(9))
        self.assertEqual(list(store.ready()), [leaf(3), leaf(10), node(0)])
        self.assertEqual(store.dirty, [leaf(3), leaf(10), node(0)])

    def test_pages_that_are_not_dirty_are_not_ready(self):
        store = stored([], ("copy", leaf(1), leaf(2)))
        self.assertEqual(list(store.ready()), [leaf(2)])
        store.flush(leaf(2))
        self.assertEqual(list(store.ready()), [])


class Crash(unittest.TestCase):
    def test_a_new_disk(self):
        store = stored([], ("put", leaf(1)), ("put", leaf(2)))
        store.flush(leaf(1))
        left = store.crash()
        self.assertIs(type(left), Disk)
        self.assertIsNot(left, store.disk)
        self.assertIs(left == store.disk, True)
        before = state_of(store)
        left[leaf(1)] = 9
        left[leaf(7)] = 1
        self.assertEqual(state_of(store), before)
        left = store.crash()
        store.flush(leaf(2))
        self.assertEqual(left.stamped(), [leaf(1)])


class Many(unittest.TestCase):
    def test_against_the_words_of_the_document(self):
        dice = Dice(11)
        for _ in range(150):
            catalog = some_catalog(dice, most_roles=4)
            store, steps = Store(catalog, some_waits(dice, catalog)), []
            for step in some_log(dice, catalog, most=6, numbers=3):
                store.do(step.kind.name, list(step.pages))
                steps = list(store.log)
                for _ in range(dice.below(3)):
                    self.compare(store, steps)
                    page = dice.one_of(store.log.all_pages())
                    if store.blockers(page):
                        self.assertRaises(Held, store.flush, page)
                    else:
                        self.assertEqual(store.flush(page), version_after(steps, page))
            self.compare(store, steps)

    def compare(self, store, steps):
        pages = store.log.all_pages()
        stamps = {page: store.disk[page] for page in pages}
        behind = {page: blockers_after(steps, store.waits, stamps, page) for page in pages}
        dirty = [page for page in pages if version_after(steps, page) > stamps[page]]
        self.assertEqual({page: store.blockers(page) for page in pages}, behind)
        self.assertEqual([page for page in pages if page not in dirty and behind[page]], [])
        self.assertEqual(store.dirty, dirty)
        self.assertEqual(list(store.ready()), [page for page in dirty if not behind[page]])


if __name__ == "__main__":
    unittest.main()
