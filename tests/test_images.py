"""Points 4 and 22: catalogs in which pages of slots are written out in the log."""

import unittest

from redopages.errors import BadSlot
from redopages.images import with_images
from redopages.judge import dangers
from redopages.kinds import Both, Catalog, Fresh, Kind, Made, Read, Renewed
from models import danger_rows, shape_of, slots_of, wide_catalog
from samples import Dice, books

IMAGED = {"r": "r", "m": "f", "f": "f", "rm": "rf", "rf": "rf"}


def imaged_shape(catalog, slots):
    """What is to be seen of the catalog with images for these slots."""
    return [(kind, [(role, group, IMAGED[mark] if (kind, role) in slots else mark) for role, group, mark in roles])
            for kind, roles in shape_of(catalog)]


class Images(unittest.TestCase):
    def imaged(self, catalog, slots):
        """Check the catalog with images for the slots, and that nothing that was passed in has changed."""
        before, rows = shape_of(catalog), list(slots)
        found = with_images(catalog, slots)
        self.assertIs(type(found), Catalog)
        self.assertIsNot(found, catalog)
        self.assertEqual(shape_of(found), imaged_shape(catalog, slots))
        self.assertEqual((shape_of(catalog), slots), (before, rows))
        self.assertEqual(dangers(found).rows,
                         tuple(row for row in danger_rows(catalog) if (row[0], row[2]) not in slots))
        self.assertEqual((found.groups(), found.made_groups()), (catalog.groups(), catalog.made_groups()))
        return found

    def test_no_slot(self):
        for catalog in (Catalog([]), books()):
            self.imaged(catalog, [])

    def test_one_slot(self):
        for row in slots_of(books()):
            found = self.imaged(books(), [row])
            role = found.named(row[0]).role_named(row[1])
            self.assertIn(type(role), (Fresh, Renewed))
            self.assertIs(role.derived(), False)

    def test_a_made_and_a_both_role(self):
        catalog = Catalog([Kind("split", [Both("old", "leaf"), Made("new", "leaf")])])
        found = self.imaged(catalog, [("split", "new")])
        self.assertEqual([type(role) for role in found.named("split").roles], [Both, Fresh])
        self.assertEqual(len(dangers(found)), 0)
        found = self.imaged(catalog, [("split", "old")])
        self.assertEqual([type(role) for role in found.named("split").roles], [Renewed, Made])
        self.assertEqual(dangers(found).rows, (("split", "old", "new"),))

    def test_several_slots_in_any_order(self):
        slots = slots_of(books())
        self.imaged(books(), slots)
        self.imaged(books(), slots[::-1])
        self.imaged(books(), slots[2:7:2])
        self.assertEqual(len(dangers(with_images(books(), slots))), 0)

    def test_a_slot_that_occurs_twice(self):
        row = ("split", "new")
        once = with_images(books(), [row])
        self.assertEqual(shape_of(self.imaged(books(), [row, row])), shape_of(once))
        self.imaged(books(), [row, ("copy", "to"), row, ("all", "d"), ("copy", "to")])

    def test_the_same_name_of_a_role_in_another_kind(self):
        roles = [Both("old", "leaf"), Made("new", "leaf")]
        catalog = Catalog([Kind("k", roles), Kind("l", roles)])
        self.imaged(catalog, [("l", "new")])
        self.imaged(catalog, [("k", "old"), ("l", "new")])

    def test_images_after_images(self):
        dice = Dice(71)
        for _ in range(100):
            catalog = wide_catalog(dice, most_roles=6)
            slots = [row for row in slots_of(catalog) if dice.below(2)]
            found = catalog
            for row in slots:
                found = with_images(found, [row])
            self.assertEqual(shape_of(found), shape_of(with_images(catalog, slots)))

    def test_drawn_catalogs(self):
        dice = Dice(72)
        for _ in range(200):
            catalog = wide_catalog(dice, most_kinds=5, most_roles=6)
            self.imaged(catalog, [row for row in slots_of(catalog) if dice.below(2)])

    def test_later_changes_of_the_list(self):
        slots = [("split", "new")]
        found = with_images(books(), slots)
        slots.append(("split", "old"))
        self.assertEqual(shape_of(found), imaged_shape(books(), slots[:1]))


class Wrong(unittest.TestCase):
    def raised(self, catalog, slots):
        before, rows = shape_of(catalog), list(slots)
        with self.assertRaises(BadSlot) as caught:
            with_images(catalog, slots)
        self.assertEqual((shape_of(catalog), slots), (before, rows))
        return caught.exception.row

    BAD = [("shift", "old"), ("", ""), ("split", "newer"), ("split", "to"), ("new", "split"), ("put", "to"),
           ("split", "up"), ("copy", "from"), ("all", "e"), ("all", "a"), ("count", "note")]

    def test_a_tuple_that_is_not_a_slot(self):
        for row in self.BAD:
            self.assertEqual(self.raised(books(), [row]), row)
            self.assertEqual(self.raised(Catalog([]), [row]), row)

    def test_the_first_one_in_the_list(self):
        good = [("split", "new"), ("all", "f"), ("copy", "to")]
        for at in range(len(self.BAD)):
            rows = self.BAD[at:] + self.BAD[:at]
            self.assertEqual(self.raised(books(), good + rows), self.BAD[at])
            self.assertEqual(self.raised(books(), good[:1] + rows[:3] + good + rows), self.BAD[at])

    def test_a_role_that_has_an_image_already(self):
        found = with_images(books(), [("split", "new")])
        self.assertEqual(self.raised(found, [("split", "old"), ("split", "new")]), ("split", "new"))


if __name__ == "__main__":
    unittest.main()
