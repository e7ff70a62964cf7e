"""Point 7: the versions of a page, the version after a step, and the pages of a log."""

import unittest

from redopages.errors import NoStep
from redopages.logs import Log
from samples import Dice, books, leaf, log_of, node, some_catalog, some_log, version_after


class Versions(unittest.TestCase):
    def setUp(self):
        self.log = log_of(
            books(),
            ("copy", leaf(5), leaf(1)),
            ("put", leaf(2)),
            ("split", leaf(1), leaf(3), node(0)),
            ("count", leaf(1), leaf(3), node(0), ("log", 7)),
            ("put", leaf(1)),
        )

    def test_pages_that_steps_make(self):
        rows = [(leaf(1), [0, 1, 3, 5]), (leaf(2), [0, 2]), (leaf(3), [0, 3]), (node(0), [0, 3, 4]),
                (("log", 7), [0, 4])]
        for page, due in rows:
            self.assertEqual(self.log.versions(page), due)

    def test_pages_that_are_only_read_or_not_named(self):
        for page in (leaf(5), leaf(4), node(1), ("root", 0), ("", -1), ("leaf", 10000)):
            self.assertEqual(self.log.versions(page), [0])
            for number in range(6):
                self.assertEqual(self.log.version_at(page, number), 0)

    def test_the_version_after_each_step(self):
        rows = [(leaf(1), [0, 1, 1, 3, 3, 5]), (leaf(2), [0, 0, 2, 2, 2, 2]), (node(0), [0, 0, 0, 3, 4, 4]),
                (("log", 7), [0, 0, 0, 0, 4, 4])]
        for page, due in rows:
            self.assertEqual([self.log.version_at(page, number) for number in range(6)], due)

    def test_no_step_below_zero_and_above_the_last_one(self):
        for log, number in [(self.log, -1), (self.log, 6), (self.log, 100), (Log(books()), 1), (Log(books()), -1)]:
            for page in (leaf(1), leaf(5), ("root", 0)):
                with self.assertRaises(NoStep) as caught:
                    log.version_at(page, number)
                self.assertEqual(caught.exception.number, number)

    def test_an_empty_log(self):
        log = Log(books())
        self.assertEqual((log.versions(leaf(0)), log.version_at(leaf(0), 0), log.all_pages()), ([0], 0, []))

    def test_all_pages_ascending_and_each_once(self):
        self.assertEqual(self.log.all_pages(), [leaf(1), leaf(2), leaf(3), leaf(5), ("log", 7), node(0)])
        log = log_of(books(), *[("put", leaf(number)) for number in (10, 9, 100, 9, 2, 10)])
        self.assertEqual(log.all_pages(), [leaf(2), leaf(9), leaf(10), leaf(100)])

    def test_new_lists_each_time(self):
        for _ in range(2):
            self.log.versions(leaf(1)).append(9)
            self.log.versions(leaf(5)).clear()
            self.log.all_pages().clear()
        self.assertEqual(self.log.versions(leaf(1)), [0, 1, 3, 5])
        self.assertEqual(self.log.versions(leaf(5)), [0])
        self.assertEqual(len(self.log.all_pages()), 6)

    def test_asked_again_as_the_log_grows(self):
        log = Log(books())
        seen = []
        for pages in ([leaf(4), leaf(2)], [leaf(2), leaf(4)], [leaf(9), leaf(2)]):
            log.do("copy", pages)
            seen.append((log.versions(leaf(2)), log.versions(leaf(4)), log.version_at(leaf(2), len(log)),
                         log.all_pages()))
        self.assertEqual(seen, [
            ([0, 1], [0], 1, [leaf(2), leaf(4)]),
            ([0, 1], [0, 2], 1, [leaf(2), leaf(4)]),
            ([0, 1, 3], [0, 2], 3, [leaf(2), leaf(4), leaf(9)]),
        ])

    def test_parameters_may_be_given_by_name(self):
        self.assertEqual(self.log.versions(page=leaf(2)), [0, 2])
        self.assertEqual(self.log.version_at(number=1, page=leaf(1)), 1)


class Many(unittest.TestCase):
    def test_against_the_words_of_the_document(self):
        dice = Dice(7)
        for _ in range(100):
            log = some_log(dice, some_catalog(dice), most=8, numbers=3)
            steps = list(log)
            self.assertEqual(log.all_pages(), sorted({page for step in steps for page in step.pages}))
            for page in log.all_pages():
                due = [version_after(steps[:number], page) for number in range(len(steps) + 1)]
                self.assertEqual([log.version_at(page, number) for number in range(len(steps) + 1)], due)
                self.assertEqual(log.versions(page), sorted(set(due)))


if __name__ == "__main__":
    unittest.main()
