"""Points 22 and 23: prices, and what the images of a log cost."""

import unittest

from redopages.errors import BadSize, BadSlot
from redopages.images import Price, images_price
from redopages.kinds import Catalog
from redopages.logs import Log
from models import shape_of, slots_of, wide_catalog
from samples import Dice, books, leaf, log_of, node, some_log

SIZES = {"leaf": 100, "log": 7, "node": 3000}


def parts(price):
    return price.size, price.images


class Prices(unittest.TestCase):
    def test_attributes(self):
        price = Price(12, 3)
        self.assertEqual((price.size, price.images), (12, 3))
        price = Price(images=4, size=0)
        self.assertEqual((price.size, price.images), (0, 4))

    def test_sums_part_by_part(self):
        one, other = Price(5, 2), Price(30, 1)
        total = one + other
        self.assertIs(type(total), Price)
        self.assertEqual((parts(total), parts(other + one)), ((35, 3), (35, 3)))
        self.assertEqual((parts(one), parts(other)), ((5, 2), (30, 1)))
        self.assertEqual(parts(one + Price(0, 0)), (5, 2))
        self.assertEqual(parts(sum([one, other, one], Price(0, 0))), (40, 5))

    def test_products_from_both_sides(self):
        price = Price(5, 2)
        for times in (0, 1, 2, 7, 10 ** 12):
            for product in (price * times, times * price):
                self.assertIs(type(product), Price)
                self.assertEqual(parts(product), (5 * times, 2 * times))
        self.assertEqual(parts(price), (5, 2))

    def test_the_operands_stay_when_a_sum_is_assigned(self):
        price = other = Price(5, 2)
        price += Price(1, 1)
        price *= 2
        self.assertEqual((parts(price), parts(other)), ((12, 6), (5, 2)))

    def test_equal(self):
        self.assertIs(Price(5, 2) == Price(5, 2), True)
        for other in (Price(5, 3), Price(4, 2), Price(2, 5), Price(0, 0)):
            self.assertIs(Price(5, 2) == other, False)
            self.assertIs(Price(5, 2) != other, True)
        self.assertIs(Price(5, 2) != Price(5, 2), False)

    def test_less_by_sizes_and_then_by_images(self):
        rows = [(0, 0), (0, 4), (1, 0), (5, 2), (5, 3), (5, 10), (6, 0), (10, 1), (100, 0)]
        for at, row in enumerate(rows):
            for index, other in enumerate(rows):
                self.assertIs(Price(*row) < Price(*other), at < index)
                self.assertIs(Price(*row) > Price(*other), at > index)
        self.assertEqual([parts(price) for price in sorted([Price(*row) for row in rows[::-1]])], rows)
        self.assertEqual(parts(min([Price(3, 1), Price(2, 9), Price(2, 8)])), (2, 8))

    def test_a_price_is_not_equal_to_what_is_no_price(self):
        for other in (5, (5, 2), "x", None):
            self.assertIs(Price(5, 2) == other, False)


class OfALog(unittest.TestCase):
    def priced(self, log, slots, sizes):
        """Check the price of the images against the sum over all steps, and return its parts."""
        rows, before, lines = list(slots), dict(sizes), log.lines()
        price = images_price(log, slots, sizes)
        self.assertIs(type(price), Price)
        written = [sizes[role.group] for step in log for role in step.kind.roles
                   if (step.kind.name, role.name) in set(slots)]
        self.assertEqual(parts(price), (sum(written), len(written)))
        self.assertEqual((slots, sizes, log.lines()), (rows, before, lines))
        return parts(price)

    def test_nothing_to_write(self):
        self.assertEqual(self.priced(Log(books()), slots_of(books()), SIZES), (0, 0))
        self.assertEqual(self.priced(Log(Catalog([])), [], {}), (0, 0))
        log = log_of(books(), ("split", leaf(0), leaf(1), node(0)))
        self.assertEqual(self.priced(log, [], SIZES), (0, 0))
        self.assertEqual(self.priced(log, [("copy", "to"), ("all", "d")], SIZES), (0, 0))

    def test_several_steps_of_the_same_kind(self):
        log = log_of(books(), ("split", leaf(0), leaf(1), node(0)), ("copy", leaf(1), leaf(2)),
                     ("split", leaf(0), leaf(1), node(0)), ("put", leaf(0)), ("guess", leaf(4), node(4)),
                     ("split", leaf(1), leaf(2), node(1)))
        self.assertEqual(self.priced(log, [("split", "new")], SIZES), (300, 3))
        self.assertEqual(self.priced(log, [("split", "new"), ("split", "old")], SIZES), (600, 6))
        self.assertEqual(self.priced(log, [("guess", "more"), ("copy", "to")], SIZES), (3100, 2))
        self.assertEqual(self.priced(log, slots_of(books()), SIZES), (3800, 9))

    def test_slots_that_occur_twice_count_once(self):
        log = log_of(books(), ("copy", leaf(1), leaf(2)), ("copy", leaf(2), leaf(1)))
        self.assertEqual(self.priced(log, [("copy", "to"), ("split", "new"), ("copy", "to")], SIZES), (200, 2))

    def test_the_bounds_of_a_size(self):
        log = log_of(books(), ("copy", leaf(1), leaf(2)), ("guess", leaf(4), node(4)))
        sizes = {"leaf": 1, "log": 1000000, "node": 1000000}
        self.assertEqual(self.priced(log, slots_of(books()), sizes), (1000002, 3))

    def test_other_keys_are_not_looked_at(self):
        log = log_of(books(), ("copy", leaf(1), leaf(2)))
        self.assertEqual(self.priced(log, [("copy", "to")], {**SIZES, "root": 0, "LEAF": -5, "": 10 ** 9}), (100, 1))

    def test_drawn_logs(self):
        dice, many = Dice(73), 0
        for _ in range(200):
            catalog = wide_catalog(dice, most_roles=4)
            log = some_log(dice, catalog, most=12, numbers=4) if len(catalog) > 0 else Log(catalog)
            slots = [row for row in slots_of(catalog) * 2 if dice.below(3)]
            before = shape_of(catalog)
            many += self.priced(log, slots, {group: 1 + dice.below(50) for group in "abc"})[1]
            self.assertEqual(shape_of(catalog), before)
        self.assertGreater(many, 300)


class Wrong(unittest.TestCase):
    def raised(self, error, log, slots, sizes):
        rows, before, lines = list(slots), dict(sizes), log.lines()
        with self.assertRaises(error) as caught:
            images_price(log, slots, sizes)
        self.assertEqual((slots, sizes, log.lines()), (rows, before, lines))
        return vars(caught.exception)

    def test_the_first_tuple_that_is_not_a_slot_comes_first(self):
        for log in (Log(books()), log_of(books(), ("copy", leaf(1), leaf(2)))):
            for row in [("shift", "old"), ("split", "to"), ("put", "to"), ("split", "up"), ("copy", "from")]:
                for sizes in (SIZES, {}, {**SIZES, "leaf": 0}):
                    self.assertEqual(self.raised(BadSlot, log, [("copy", "to"), row, ("x", "y")], sizes), {"row": row})

    def test_a_group_without_a_size_or_with_one_out_of_range(self):
        for log in (Log(books()), log_of(books(), ("copy", leaf(1), leaf(2)))):
            for slots in ([], [("copy", "to")], slots_of(books())):
                for group in SIZES:
                    sizes = {name: SIZES[name] for name in SIZES if name != group}
                    self.assertEqual(self.raised(BadSize, log, slots, sizes), {"group": group})
                    for size in (0, -1, -100, 1000001, 10 ** 12):
                        self.assertEqual(self.raised(BadSize, log, slots, {**SIZES, group: size}), {"group": group})

    def test_the_first_group_in_ascending_order(self):
        log = Log(books())
        self.assertEqual(self.raised(BadSize, log, [], {}), {"group": "leaf"})
        self.assertEqual(self.raised(BadSize, log, [], {"node": 0, "leaf": 5, "log": 0}), {"group": "log"})
        self.assertEqual(self.raised(BadSize, log, [], {"node": 0, "leaf": 5, "log": 5}), {"group": "node"})


if __name__ == "__main__":
    unittest.main()
