"""Points 22 and 23: cheapest images that cut all cycles, and the order of the groups."""

import itertools
import unittest

from redopages.backups import backup_order
from redopages.errors import BadSize
from redopages.images import Price, cheapest_images, with_images
from redopages.judge import dangers, least_waits, sticking_log, wrong_run
from redopages.kinds import Both, Catalog, Fresh, Kind, Made, Read, Renewed
from models import (danger_rows, edges_by_word, group_named, has_cycle, leads_forward, shape_of, slots_of,
                    wide_catalog)
from samples import Dice, books

SPLIT = Catalog([Kind("split", [Both("old", "leaf"), Made("new", "leaf")])])


def price_of(catalog, slots, sizes):
    """Point 23: the two parts of the price of these slots."""
    return sum(sizes[group_named(catalog, *row)] for row in slots), len(slots)


def cheapest_of_all_orders(catalog, sizes):
    """The least price over all orders of the groups, each with images where a danger does not lead forward."""
    found = []
    for order in itertools.permutations(catalog.groups()):
        slots = {(kind, second) for kind, first, second in danger_rows(catalog)
                 if order.index(group_named(catalog, kind, first)) >= order.index(group_named(catalog, kind, second))}
        found.append(price_of(catalog, slots, sizes))
    return min(found)


def cheapest_of_all_choices(catalog, sizes):
    """The least price over all choices of slots that cut all cycles."""
    slots, rows, found = slots_of(catalog), danger_rows(catalog), []
    for bits in itertools.product([False, True], repeat=len(slots)):
        chosen = {row for row, bit in zip(slots, bits) if bit}
        if not has_cycle(edges_by_word(catalog, [row for row in rows if (row[0], row[2]) not in chosen])):
            found.append(price_of(catalog, chosen, sizes))
    return min(found)


class Cheapest(unittest.TestCase):
    def found(self, catalog, sizes):
        """Check all that is promised but that nothing is cheaper; return the parts of the price and the slots."""
        before, given = shape_of(catalog), dict(sizes)
        answer = cheapest_images(catalog, sizes)
        self.assertEqual((type(answer), len(answer)), (tuple, 3))
        price, slots, order = answer
        self.assertEqual((type(price), type(slots), type(order)), (Price, list, list))
        self.assertEqual((shape_of(catalog), sizes), (before, given))
        self.assertEqual(slots, sorted(set(slots)))
        self.assertEqual([row for row in slots if row not in slots_of(catalog)], [])
        self.assertEqual((price.size, price.images), price_of(catalog, slots, sizes))
        self.assertEqual(sorted(order), catalog.groups())
        left = [row for row in danger_rows(catalog) if (row[0], row[2]) not in slots]
        self.assertTrue(leads_forward(order, edges_by_word(catalog, left)))
        self.assertFalse(has_cycle(edges_by_word(catalog, left)))
        return (price.size, price.images), slots

    def test_no_groups(self):
        self.assertEqual(self.found(Catalog([]), {}), ((0, 0), []))
        self.assertEqual(cheapest_images(Catalog([]), {"leaf": 0})[1:], ([], []))

    def test_no_dangers(self):
        put = Kind("put", [Fresh("to", "b"), Renewed("on", "a")])
        see = Kind("see", [Read("from", "c"), Made("to", "a")])
        for kinds in ([put], [see], [put, see], [Kind("guess", [Made("to", "b")])]):
            self.assertEqual(len(dangers(Catalog(kinds))), 0)
            self.assertEqual(self.found(Catalog(kinds), {"a": 1, "b": 1, "c": 1}), ((0, 0), []))

    def test_a_danger_within_one_group(self):
        self.assertEqual(self.found(SPLIT, {"leaf": 100}), ((100, 1), [("split", "new")]))

    def test_dangers_without_a_cycle_cost_nothing(self):
        catalog = Catalog([Kind("k", [Both("x", "c"), Made("y", "b")]), Kind("l", [Both("x", "b"), Made("y", "a")])])
        self.assertEqual(self.found(catalog, {"a": 1, "b": 1, "c": 1}), ((0, 0), []))
        self.assertEqual(cheapest_images(catalog, {"a": 1, "b": 1, "c": 1})[2], ["c", "b", "a"])

    def test_a_cycle_is_cut_where_it_is_cheapest(self):
        kinds = [Kind(start + end, [Read("from", start), Made("to", end)]) for start, end in ["ab", "bc", "ca"]]
        for at, group in enumerate("abc"):
            sizes = {"a": 50, "b": 50, "c": 50, group: 49}
            self.assertEqual(self.found(Catalog(kinds), sizes), ((49, 1), [(["ca", "ab", "bc"][at], "to")]))

    def test_sizes_decide_before_the_number_of_images(self):
        many = Kind("many", [Read("from", "a"), Made("p", "b"), Made("q", "b"), Made("r", "b")])
        one = Kind("one", [Read("from", "b"), Made("to", "a")])
        catalog = Catalog([many, one])
        slots = [("many", "p"), ("many", "q"), ("many", "r")]
        self.assertEqual(self.found(catalog, {"a": 31, "b": 10}), ((30, 3), slots))
        self.assertEqual(self.found(catalog, {"a": 29, "b": 10}), ((29, 1), [("one", "to")]))

    def test_the_number_of_images_decides_where_sizes_are_alike(self):
        many = Kind("many", [Read("from", "a"), Made("p", "b"), Made("q", "b"), Made("r", "b")])
        one = Kind("one", [Read("from", "b"), Made("to", "a")])
        for kinds in ([many, one], [one, many]):
            self.assertEqual(self.found(Catalog(kinds), {"a": 30, "b": 10}), ((30, 1), [("one", "to")]))
        turned = Catalog([Kind("many", [Read("from", "b"), Made("p", "a"), Made("q", "a")]),
                          Kind("one", [Read("from", "a"), Made("to", "b")])])
        self.assertEqual(self.found(turned, {"a": 10, "b": 20}), ((20, 1), [("one", "to")]))

    def test_two_roles_that_both_read_and_are_derived(self):
        catalog = Catalog([Kind("swap", [Both("x", "a"), Both("y", "b")])])
        self.assertEqual(self.found(catalog, {"a": 5, "b": 6}), ((5, 1), [("swap", "x")]))
        self.assertEqual(self.found(catalog, {"a": 6, "b": 5}), ((5, 1), [("swap", "y")]))

    def test_all_orders_and_all_choices_one_by_one(self):
        dice, prices = Dice(81), set()
        for at in range(250):
            catalog = wide_catalog(dice, most_kinds=4, most_roles=4, groups="abcde"[:2 + at % 4])
            sizes = {group: dice.one_of([1, 1, 2, 3, 3, 10]) for group in "abcde"}
            price, slots = self.found(catalog, sizes)
            self.assertEqual(price, cheapest_of_all_orders(catalog, sizes))
            if len(slots_of(catalog)) <= 7:
                self.assertEqual(price, cheapest_of_all_choices(catalog, sizes))
            prices.add(price)
        self.assertGreater(len(prices), 15)

    def test_sizes_that_are_all_alike(self):
        dice = Dice(82)
        for at in range(60):
            catalog = wide_catalog(dice, most_kinds=6, most_roles=5, groups="abcde"[:3 + at % 3])
            sizes = {group: 1000000 for group in "abcde"}
            price, slots = self.found(catalog, sizes)
            self.assertEqual(price, cheapest_of_all_orders(catalog, sizes))
            self.assertEqual(price[0], 1000000 * price[1])

    def test_eight_groups(self):
        groups = "abcdefgh"
        both = Catalog([Kind(group, [Both(role, groups[(at + step) % 8]) for step, role in enumerate("pqrstu")])
                        for at, group in enumerate(groups)])
        price, slots = self.found(both, {group: 1 + at for at, group in enumerate(groups)})
        self.assertEqual(price[1], len(slots))
        ring = Catalog([Kind(group, [Read("from", group), Made("to", groups[(at + 1) % 8])])
                        for at, group in enumerate(groups)])
        for at in range(8):
            sizes = {group: 7 for group in groups}
            sizes[groups[at]] = 6
            self.assertEqual(self.found(ring, sizes), ((6, 1), [(groups[at - 1], "to")]))
        dice = Dice(83)
        large = wide_catalog(dice, most_kinds=8, most_roles=6, groups=groups)
        self.found(large, {group: 1 + dice.below(1000000) for group in groups})

    def test_new_lists_each_time(self):
        answer = cheapest_images(SPLIT, {"leaf": 3})
        answer[1].clear()
        answer[2].clear()
        self.assertEqual(cheapest_images(SPLIT, {"leaf": 3})[1:], ([("split", "new")], ["leaf"]))

    def test_other_keys_are_not_looked_at(self):
        self.assertEqual(self.found(SPLIT, {"leaf": 3, "node": 0, "x": -1, "LEAF": 10 ** 9})[0], (3, 1))

    def test_the_bounds_of_a_size(self):
        for size in (1, 1000000):
            self.assertEqual(self.found(SPLIT, {"leaf": size})[0], (size, 1))


class WithTheseImages(unittest.TestCase):
    def test_least_waits_are_safe_and_nothing_gets_stuck(self):
        dice = Dice(84)
        catalogs = [SPLIT, books(), Catalog([]), *[wide_catalog(dice, most_kinds=5, most_roles=5) for _ in range(200)]]
        for catalog in catalogs:
            sizes = {group: 1 + dice.below(9) for group in catalog.groups()}
            slots = cheapest_images(catalog, sizes)[1]
            found = with_images(catalog, slots)
            least = least_waits(found)
            self.assertIsNone(wrong_run(found, least))
            self.assertIsNone(sticking_log(found, least))
            self.assertIsNone(sticking_log(found, dangers(found)))
            order = backup_order(found, least)
            self.assertEqual(sorted(order), catalog.groups())
            self.assertTrue(leads_forward(order, edges_by_word(found, danger_rows(found))))
            self.assertEqual(cheapest_images(found, sizes)[:2], (Price(0, 0), []))

    def test_without_them_there_is_a_cycle(self):
        dice, many = Dice(85), 0
        for _ in range(150):
            catalog = wide_catalog(dice, most_kinds=4)
            slots = cheapest_images(catalog, {group: 1 + dice.below(9) for group in "abc"})[1]
            for row in slots:
                many += 1
                less = with_images(catalog, [other for other in slots if other != row])
                self.assertTrue(has_cycle(edges_by_word(less, danger_rows(less))))
        self.assertGreater(many, 100)


class Wrong(unittest.TestCase):
    def raised(self, catalog, sizes):
        before, given = shape_of(catalog), dict(sizes)
        with self.assertRaises(BadSize) as caught:
            cheapest_images(catalog, sizes)
        self.assertEqual((shape_of(catalog), sizes), (before, given))
        return caught.exception.group

    def test_a_group_without_a_size_or_with_one_out_of_range(self):
        for group in ("leaf", "log", "node"):
            self.assertEqual(self.raised(books(), {name: 5 for name in ("leaf", "log", "node") if name != group}), group)
            for size in (0, -1, -7, 1000001, 10 ** 15):
                self.assertEqual(self.raised(books(), {"leaf": 5, "log": 5, "node": 5, group: size}), group)

    def test_the_first_group_in_ascending_order(self):
        self.assertEqual(self.raised(books(), {}), "leaf")
        self.assertEqual(self.raised(books(), {"node": 0, "log": 1000001, "leaf": 1}), "log")
        self.assertEqual(self.raised(books(), {"node": 0, "log": 1000001, "leaf": 0}), "leaf")

    def test_also_if_no_slot_needs_it(self):
        catalog = Catalog([Kind("k", [Both("x", "b"), Made("y", "b"), Read("z", "c"), Fresh("u", "a")])])
        for group in "abc":
            self.assertEqual(self.raised(catalog, {**{name: 1 for name in "abc"}, group: 0}), group)
        put = Catalog([Kind("put", [Fresh("to", "a")])])
        self.assertEqual(self.raised(put, {"b": 1}), "a")


if __name__ == "__main__":
    unittest.main()
