"""Points 2, 11 and 13: waits must be valid for the catalog at every door of the program."""

import unittest

from redopages.backups import backup_order, wrong_backup
from redopages.errors import BadOrder, BadStamp, BadWait
from redopages.judge import exposed, live, sticking_log, wrong_run
from redopages.kinds import Catalog
from redopages.logs import Log
from redopages.store import Store, crash_run
from redopages.waits import Waits
from models import shape_of, valid_waits
from samples import books, disk_of, leaf

ORDER = ["leaf", "log", "node"]
# Each door is given a catalog, waits, and whether its other arguments are to be wrong.
DOORS = {
    "Store": lambda catalog, waits, wrong: Store(catalog, waits),
    "crash_run": lambda catalog, waits, wrong: crash_run(Log(catalog), waits, disk_of({leaf(1): 1} if wrong else {})),
    "live": lambda catalog, waits, wrong: live(catalog, waits),
    "exposed": lambda catalog, waits, wrong: exposed(catalog, waits),
    "wrong_run": lambda catalog, waits, wrong: wrong_run(catalog, waits),
    "sticking_log": lambda catalog, waits, wrong: sticking_log(catalog, waits),
    "backup_order": lambda catalog, waits, wrong: backup_order(catalog, waits),
    "wrong_backup": lambda catalog, waits, wrong: wrong_backup(catalog, waits, ["leaf"] if wrong else ORDER),
}
BAD = [
    ("aaa", "old", "new"), ("splits", "old", "new"),
    ("split", "from", "new"), ("copy", "old", "to"),
    ("split", "old", "to"), ("copy", "from", "new"), ("split", "old", ""),
    ("copy", "to", "from"), ("count", "low", "high"), ("merge", "d", "c"),
]


class EveryDoor(unittest.TestCase):
    def raised(self, door, waits, wrong=False, catalog=None):
        with self.assertRaises(BadWait) as caught:
            DOORS[door](books() if catalog is None else catalog, waits, wrong)
        return caught.exception.row

    def test_a_single_wait_that_is_not_valid(self):
        for door in DOORS:
            for row in BAD:
                with self.subTest(door, row=row):
                    self.assertEqual(self.raised(door, Waits([row])), row)

    def test_the_first_in_ascending_order_among_valid_ones(self):
        valid = valid_waits(books())
        for door in DOORS:
            for at in range(len(BAD)):
                rows = BAD[at:] + BAD[:at]
                self.assertEqual(self.raised(door, Waits(valid + rows)), min(BAD))
                self.assertEqual(self.raised(door, Waits(valid + BAD[at:])), min(BAD[at:]))

    def test_ahead_of_a_stamp_or_an_order_that_is_wrong(self):
        for door in DOORS:
            for row in BAD:
                self.assertEqual(self.raised(door, Waits([row]), wrong=True), row)
        with self.assertRaises(BadStamp):
            DOORS["crash_run"](books(), Waits([]), True)
        with self.assertRaises(BadOrder):
            DOORS["wrong_backup"](books(), Waits([]), True)

    def test_a_catalog_without_kinds_has_no_waits(self):
        for door in DOORS:
            self.assertEqual(self.raised(door, Waits(valid_waits(books())), True, Catalog([])),
                             min(valid_waits(books())))

    def test_nothing_is_raised_for_valid_waits(self):
        lots = [Waits([row]) for row in valid_waits(books())]
        for door, enter in DOORS.items():
            for waits in [Waits([]), Waits(valid_waits(books())), *lots]:
                enter(books(), waits, False)

    def test_catalog_and_waits_stay_as_they_were(self):
        catalog = books()
        for rows in ([], valid_waits(catalog), [*valid_waits(catalog), *BAD]):
            waits = Waits(rows)
            for enter in DOORS.values():
                try:
                    enter(catalog, waits, False)
                except BadWait:
                    pass
                self.assertEqual(shape_of(catalog), shape_of(books()))
                self.assertEqual(waits.rows, tuple(sorted(rows)))


if __name__ == "__main__":
    unittest.main()
