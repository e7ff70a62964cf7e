"""Points 2 and 12: runs and their events, all or nothing."""

import unittest

from redopages.errors import BadStep, Held, NoKind
from redopages.logs import Log
from redopages.store import Disk, Store
from redopages.waits import Waits
from samples import books, leaf, node, state_of

WAITS = [("split", "old", "new"), ("split", "old", "up"), ("copy", "from", "to")]
EVENTS = [
    ("do", "split", (leaf(1), leaf(2), node(0))),
    ("flush", leaf(2)),
    ("do", "put", (leaf(2),)),
    ("flush", node(0)),
    ("flush", leaf(1)),
    ("do", "copy", (leaf(1), leaf(3))),
    ("flush", leaf(9)),
    ("flush", leaf(3)),
    ("do", "put", (leaf(1),)),
]
# The number of steps and the stamps after each number of events, from none on.
AFTER = [
    (0, {}),
    (1, {}),
    (1, {leaf(2): 1}),
    (2, {leaf(2): 1}),
    (2, {leaf(2): 1, node(0): 1}),
    (2, {leaf(1): 1, leaf(2): 1, node(0): 1}),
    (3, {leaf(1): 1, leaf(2): 1, node(0): 1}),
    (3, {leaf(1): 1, leaf(2): 1, node(0): 1}),
    (3, {leaf(1): 1, leaf(2): 1, leaf(3): 3, node(0): 1}),
    (4, {leaf(1): 1, leaf(2): 1, leaf(3): 3, node(0): 1}),
]
# Events that raise an error after the first event of the list above, and its class and attributes.
WRONG = [
    (("do", "swap", (leaf(1),)), NoKind, {"name": "swap"}),
    (("do", "put", ()), BadStep, {"kind": "put", "at": -1}),
    (("do", "copy", (leaf(1), node(1))), BadStep, {"kind": "copy", "at": 1}),
    (("do", "copy", (leaf(1), leaf(1))), BadStep, {"kind": "copy", "at": 1}),
    (("do", "put", (leaf(10000),)), BadStep, {"kind": "put", "at": 0}),
    (("flush", leaf(1)), Held, {"page": leaf(1), "behind": [leaf(2), node(0)]}),
]


def store_of(*events):
    store = Store(books(), Waits(WAITS))
    for event in events:
        if event[0] == "do":
            store.do(event[1], event[2])
        else:
            store.flush(event[1])
    return store


class Played(unittest.TestCase):
    def same(self, store, many):
        """Check that the store is as after so many events of the list."""
        steps, stamps = AFTER[many]
        events = [event for event in EVENTS[:many] if event[0] == "do"]
        self.assertEqual([(step.kind.name, step.pages) for step in store.log], [event[1:] for event in events])
        self.assertEqual(len(store.log), steps)
        self.assertEqual({page: store.disk[page] for page in store.disk.stamped()}, stamps)

    def test_all_events(self):
        store = store_of()
        self.assertEqual(store.play(EVENTS), len(EVENTS))
        self.same(store, len(EVENTS))
        self.assertEqual(store.dirty, [leaf(1), leaf(2)])
        self.assertEqual(state_of(store), state_of(store_of(*EVENTS)))

    def test_no_events(self):
        for store in (store_of(), store_of(*EVENTS[:2])):
            before = state_of(store)
            self.assertEqual(store.play([]), 0)
            self.assertEqual(store.play([], at=3), 0)
            self.assertEqual(state_of(store), before)

    def test_the_first_events(self):
        for many in range(len(EVENTS) + 1):
            store = store_of()
            self.assertEqual(store.play(EVENTS, at=many), many)
            self.same(store, many)

    def test_more_than_there_are_and_none(self):
        for at in (len(EVENTS), len(EVENTS) + 1, 1000, None):
            store = store_of()
            self.assertEqual(store.play(EVENTS, at=at), len(EVENTS))
            self.same(store, len(EVENTS))

    def test_further_events_are_not_looked_at(self):
        for many in range(len(EVENTS) + 1):
            for further in (("do", "swap", ()), ("flush", leaf(1)), None, ()):
                store = store_of()
                self.assertEqual(store.play([*EVENTS[:many], further], at=many), many)
                self.same(store, many)

    def test_a_store_that_has_steps_and_flushes_already(self):
        for many in range(len(EVENTS) + 1):
            store = store_of(*EVENTS[:many])
            self.assertEqual(store.play(EVENTS[many:]), len(EVENTS) - many)
            self.same(store, len(EVENTS))

    def test_one_event_after_the_other(self):
        store = store_of()
        for many, event in enumerate(EVENTS):
            self.assertEqual(store.play([event]), 1)
            self.same(store, many + 1)

    def test_the_store_goes_on_afterwards(self):
        store = store_of()
        store.play(EVENTS[:3])
        for event in EVENTS[3:]:
            if event[0] == "do":
                store.do(event[1], list(event[2]))
            else:
                store.flush(event[1])
        self.same(store, len(EVENTS))
        self.assertIs(type(store.log), Log)
        self.assertIs(type(store.disk), Disk)
        self.assertIs(store.log.catalog, store.catalog)

    def test_the_list_is_not_changed(self):
        events = list(EVENTS)
        store = store_of()
        store.play(events)
        self.assertEqual(events, EVENTS)
        before = state_of(store)
        events.clear()
        self.assertEqual(state_of(store), before)

    def test_the_number_is_given_by_name_only(self):
        self.assertRaises(TypeError, store_of().play, EVENTS, 2)


class AllOrNothing(unittest.TestCase):
    def refused(self, store, events, error, attributes, at=None):
        before, given = state_of(store), list(events)
        with self.subTest(events):
            with self.assertRaises(error) as caught:
                store.play(events, at=at)
            self.assertIs(type(caught.exception), error)
            self.assertEqual(vars(caught.exception), attributes)
            self.assertEqual(state_of(store), before)
            self.assertEqual(events, given)

    def test_at_the_first_event(self):
        for event, error, attributes in WRONG:
            self.refused(store_of(EVENTS[0]), [event], error, attributes)
            self.refused(store_of(EVENTS[0]), [event, *EVENTS[1:]], error, attributes)
            self.refused(store_of(EVENTS[0]), [event, None], error, attributes, at=1)

    def test_at_a_later_event(self):
        further = [("do", "put", (leaf(8),)), ("flush", leaf(8)), ("do", "guess", (leaf(8), node(5)))]
        for event, error, attributes in WRONG:
            for store in (store_of(EVENTS[0]), store_of(EVENTS[0], ("do", "put", (leaf(7),)), ("flush", leaf(7)))):
                for many in range(1, 4):
                    self.refused(store, [*further[:many], event, EVENTS[1]], error, attributes)
                    self.refused(store, [*further[:many], event, None], error, attributes, at=many + 1)

    def test_on_an_empty_store(self):
        for event, error, attributes in WRONG:
            self.refused(store_of(), [EVENTS[0], event], error, attributes)

    def test_a_flush_that_waits_for_a_page_that_is_flushed_later(self):
        self.refused(store_of(), [EVENTS[0], EVENTS[1], EVENTS[4], EVENTS[3]], Held,
                     {"page": leaf(1), "behind": [node(0)]})

    def test_the_store_goes_on_after_an_error(self):
        for event, error, attributes in WRONG:
            store = store_of(EVENTS[0])
            self.refused(store, [("do", "put", (leaf(8),)), event], error, attributes)
            self.assertEqual(store.do("put", [leaf(4)]), 2)
            self.assertEqual(store.flush(leaf(4)), 2)
            self.assertEqual(store.blockers(leaf(1)), [leaf(2), node(0)])
            self.assertEqual(store.log.all_pages(), [leaf(1), leaf(2), leaf(4), node(0)])
            self.assertEqual(store.log.versions(leaf(8)), [0])


if __name__ == "__main__":
    unittest.main()
