"""Points 6 and 7: the steps of a log, which pages fit a kind, and steps by their numbers."""

import unittest

from redopages.errors import BadStep, NoKind, NoRole, NoStep, RedoError
from redopages.kinds import Both, Catalog, Fresh, Kind, Made, Read
from redopages.logs import Log, Step
from samples import books, leaf, log_of, node

# For each kind of the catalog books a step, and the pages that it reads and makes.
STEPS = [
    ("put", [leaf(1)], [], [leaf(1)]),
    ("copy", [leaf(1), leaf(2)], [leaf(1)], [leaf(2)]),
    ("split", [leaf(2), leaf(0), node(9999)], [leaf(2), node(9999)], [leaf(2), leaf(0), node(9999)]),
    ("count", [leaf(5), leaf(4), node(0), ("log", 4)], [leaf(5), leaf(4), node(0)], [node(0), ("log", 4)]),
    ("merge", [leaf(3), leaf(1), node(3), leaf(2), node(1)], [leaf(3), leaf(1), node(3), node(1)], [leaf(2), node(1)]),
    ("all", [leaf(3), node(3), leaf(1), leaf(2), node(1), ("log", 0)], [leaf(3), leaf(2), node(1)],
     [node(3), leaf(1), leaf(2), node(1), ("log", 0)]),
    ("guess", [leaf(0), node(0)], [], [leaf(0), node(0)]),
]


def seen(log):
    """All that can be seen of a log, as plain values."""
    steps = [(step.number, step.kind.name, step.pages) for step in log]
    return len(log), steps, log.all_pages(), [log.versions(page) for page in log.all_pages()], log.lines()


class Done(unittest.TestCase):
    def test_kinds_of_one_to_six_roles_with_lists_and_tuples(self):
        for form in (list, tuple):
            log = Log(books())
            for at, (kind, pages, _, _) in enumerate(STEPS):
                with self.subTest(kind, form=form):
                    self.assertEqual(log.do(kind, form(pages)), at + 1)
                    self.assertEqual(len(log), at + 1)
            self.assertEqual([step.pages for step in log], [tuple(pages) for _, pages, _, _ in STEPS])

    def test_each_step_by_its_number(self):
        catalog = books()
        log = log_of(catalog, *[(kind, *pages) for kind, pages, _, _ in STEPS])
        for at, (kind, pages, read, made) in enumerate(STEPS):
            with self.subTest(kind):
                step = log[at + 1]
                self.assertIs(type(step), Step)
                self.assertEqual(step.number, at + 1)
                self.assertIs(step.kind, catalog.named(kind))
                self.assertIs(type(step.pages), tuple)
                self.assertEqual(step.pages, tuple(pages))
                self.assertEqual(step.read_pages(), read)
                self.assertEqual(step.made_pages(), made)
                for role, page in zip(step.kind.roles, pages):
                    self.assertEqual(step.page_at(role.name), page)

    def test_the_lists_of_pages_are_new_each_time(self):
        step = log_of(books(), ("split", leaf(2), leaf(0), node(1)))[1]
        step.read_pages().clear()
        step.made_pages().append(leaf(9))
        self.assertEqual(step.read_pages(), [leaf(2), node(1)])
        self.assertEqual(step.made_pages(), [leaf(2), leaf(0), node(1)])

    def test_length_iteration_and_catalog(self):
        catalog = books()
        log = Log(catalog)
        self.assertIs(log.catalog, catalog)
        self.assertEqual((len(log), list(log)), (0, []))
        for many in range(1, 4):
            log.do("put", [leaf(many)])
            self.assertEqual(len(log), many)
            self.assertEqual([step.number for step in log], list(range(1, many + 1)))
            self.assertEqual([step for step in log], [log[number] for number in range(1, many + 1)])
        self.assertEqual(len([(first, second) for first in log for second in log]), 9)
        self.assertEqual(len(catalog), 7)

    def test_two_steps_may_share_pages(self):
        log = log_of(books(), ("copy", leaf(0), leaf(1)), ("copy", leaf(0), leaf(1)), ("copy", leaf(1), leaf(0)))
        self.assertEqual([step.pages for step in log], [(leaf(0), leaf(1)), (leaf(0), leaf(1)), (leaf(1), leaf(0))])

    def test_the_list_that_was_passed_is_not_changed(self):
        log, pages = Log(books()), [leaf(1), leaf(2)]
        log.do("copy", pages)
        self.assertEqual(pages, [leaf(1), leaf(2)])
        before = seen(log)
        pages[0] = leaf(7)
        pages.append(leaf(3))
        self.assertEqual(seen(log), before)
        self.assertEqual(log[1].pages, (leaf(1), leaf(2)))

    def test_two_logs_of_a_catalog_know_nothing_of_each_other(self):
        catalog = books()
        one, two = log_of(catalog, ("put", leaf(1))), log_of(catalog, ("put", leaf(2)), ("put", leaf(3)))
        self.assertEqual((len(one), len(two)), (1, 2))
        self.assertEqual((one.all_pages(), two.all_pages()), ([leaf(1)], [leaf(2), leaf(3)]))

    def test_ninety_nine_steps_and_somewhat_more_raise_no_error(self):
        log = Log(books())
        for number in range(1, 121):
            self.assertEqual(log.do("put", [leaf(number % 7)]), number)
        self.assertEqual((log[99].number, log[120].number, log.versions(leaf(1))[-1]), (99, 120, 120))

    def test_parameters_may_be_given_by_name(self):
        log = Log(catalog=books())
        self.assertEqual(log.do(pages=[leaf(1), leaf(2)], kind="copy"), 1)
        self.assertEqual(log[1].page_at(role="to"), leaf(2))


class ByHand(unittest.TestCase):
    def test_a_step_checks_nothing_and_keeps_its_own_pages(self):
        pages = [leaf(1), node(70000)]
        kind = Kind("copy", [Read("from", "leaf"), Made("to", "leaf")])
        step = Step(-3, kind, pages)
        pages.clear()
        self.assertEqual((step.number, step.pages), (-3, (leaf(1), node(70000))))
        self.assertIs(step.kind, kind)
        self.assertEqual((step.read_pages(), step.made_pages()), ([leaf(1)], [node(70000)]))
        self.assertEqual(Step(number=4, kind=kind, pages=(leaf(1), leaf(2))).page_at("to"), leaf(2))


class Wrong(unittest.TestCase):
    def setUp(self):
        self.log = log_of(books(), ("copy", leaf(1), leaf(2)), ("put", leaf(1)))

    def refused(self, kind, pages, error, attributes):
        before = seen(self.log)
        for form in (list, tuple):
            given = form(pages)
            with self.subTest(kind, pages=given):
                with self.assertRaises(error) as caught:
                    self.log.do(kind, given)
                self.assertEqual(vars(caught.exception), attributes)
                self.assertIsInstance(caught.exception, RedoError)
                self.assertEqual(given, form(pages))
                self.assertEqual(seen(self.log), before)

    def misfit(self, kind, pages, at):
        self.refused(kind, pages, BadStep, {"kind": kind, "at": at})

    def test_no_such_kind_comes_first(self):
        for kind in ("swap", "", "pu", "Put", "leaf", "to"):
            for pages in ([], [leaf(1)], [node(-1), node(-1)]):
                self.refused(kind, pages, NoKind, {"name": kind})
        with self.assertRaises(NoKind):
            Log(Catalog([])).do("put", [leaf(1)])

    def test_a_page_too_few_or_too_many(self):
        self.misfit("put", [], -1)
        self.misfit("put", [leaf(1), leaf(2)], -1)
        self.misfit("copy", [leaf(1)], -1)
        self.misfit("copy", [leaf(1), leaf(2), leaf(3)], -1)
        self.misfit("all", [leaf(3), node(3), leaf(1), leaf(2), node(1)], -1)
        self.misfit("all", [leaf(3), node(3), leaf(1), leaf(2), node(1), ("log", 0), ("log", 1)], -1)

    def test_the_number_of_pages_comes_before_the_pages(self):
        self.misfit("copy", [node(-1)], -1)
        self.misfit("copy", [leaf(1), leaf(1), node(10000)], -1)

    def test_a_page_of_another_group(self):
        self.misfit("put", [node(1)], 0)
        self.misfit("copy", [leaf(1), node(2)], 1)
        self.misfit("split", [leaf(1), leaf(2), leaf(3)], 2)
        self.misfit("put", [("lea", 1)], 0)
        self.misfit("put", [("to", 1)], 0)

    def test_a_number_below_zero_or_above_9999(self):
        self.misfit("put", [leaf(-1)], 0)
        self.misfit("put", [leaf(10000)], 0)
        self.misfit("copy", [leaf(0), leaf(-1)], 1)
        self.misfit("copy", [leaf(9999), leaf(10000)], 1)
        self.misfit("copy", [leaf(10000), leaf(0)], 0)
        self.assertEqual(self.log.do("copy", [leaf(9999), leaf(0)]), 3)

    def test_a_page_that_is_equal_to_an_earlier_one(self):
        self.misfit("copy", [leaf(1), leaf(1)], 1)
        self.misfit("merge", [leaf(1), leaf(2), node(1), leaf(1), node(2)], 3)
        self.misfit("merge", [leaf(1), leaf(2), node(1), leaf(2), node(1)], 3)
        self.misfit("merge", [leaf(1), leaf(2), node(1), leaf(3), node(1)], 4)

    def test_pages_with_the_same_number_in_other_groups_are_different(self):
        self.assertEqual(self.log.do("split", [leaf(1), leaf(2), node(1)]), 3)

    def test_the_least_index_of_several(self):
        self.misfit("merge", [leaf(1), leaf(1), leaf(3), leaf(-1), node(2)], 1)
        self.misfit("merge", [leaf(1), leaf(10000), node(3), leaf(1), leaf(2)], 1)
        self.misfit("merge", [leaf(1), leaf(2), leaf(3), leaf(1), node(-2)], 2)
        self.misfit("merge", [leaf(1), leaf(2), node(3), leaf(2), node(-2)], 3)
        self.misfit("merge", [node(1), leaf(2), node(3), leaf(2), node(3)], 0)
        self.misfit("merge", [leaf(-1), leaf(-1), node(-3), leaf(2), node(3)], 0)
        self.misfit("merge", [leaf(1), leaf(2), node(3), leaf(9), node(3)], 4)

    def test_a_step_after_an_error_gets_the_next_number(self):
        self.misfit("copy", [leaf(1)], -1)
        self.misfit("copy", [leaf(8), leaf(8)], 1)
        self.assertEqual(self.log.do("copy", [leaf(8), leaf(9)]), 3)
        self.assertEqual(self.log.all_pages(), [leaf(1), leaf(2), leaf(8), leaf(9)])


class NotThere(unittest.TestCase):
    def test_no_role(self):
        catalog = books()
        step = log_of(catalog, ("copy", leaf(1), leaf(2)))[1]
        for role in ("old", "", "fro", "From", "leaf", "copy"):
            with self.assertRaises(NoRole) as caught:
                step.page_at(role)
            self.assertEqual(caught.exception.name, role)

    def test_no_step(self):
        log = Log(books())
        for many in range(4):
            for number in (0, -1, -2, many + 1, many + 2, 100):
                with self.subTest(many=many, number=number):
                    with self.assertRaises(NoStep) as caught:
                        log[number]
                    self.assertEqual(caught.exception.number, number)
            log.do("put", [leaf(many)])


class SameNames(unittest.TestCase):
    def test_a_role_that_is_called_like_another_kind_or_group(self):
        catalog = Catalog([Kind("leaf", [Both("leaf", "leaf"), Fresh("node", "leaf"), Read("put", "node")])])
        log = log_of(catalog, ("leaf", leaf(3), leaf(4), node(5)))
        pages = [log[1].page_at(role) for role in ("leaf", "node", "put")]
        self.assertEqual(pages, [leaf(3), leaf(4), node(5)])


if __name__ == "__main__":
    unittest.main()
