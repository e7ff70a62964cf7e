"""Page images in the log: catalogs with them, what they cost, and the cheapest that cut all cycles."""

from redopages.errors import BadSize, BadSlot
from redopages.judge import dangers
from redopages.kinds import Catalog, Kind
from redopages.webs import edges_of

SMALLEST_SIZE = 1
GREATEST_SIZE = 1000000


class Price:
    """What images cost: the sizes of their pages, and how many they are."""

    def __init__(self, size, images):
        self.size = size
        self.images = images

    def __add__(self, other):
        return Price(self.size + other.size, self.images + other.images)

    def __mul__(self, other):
        return Price(self.size * other, self.images * other)

    def __rmul__(self, other):
        return Price(self.size * other, self.images * other)

    def __eq__(self, other):
        if not isinstance(other, Price):
            return NotImplemented
        return (self.size, self.images) == (other.size, other.images)

    def __lt__(self, other):
        if not isinstance(other, Price):
            return NotImplemented
        return (self.size, self.images) < (other.size, other.images)


def require_slots(catalog, slots):
    """Raise BadSlot for the first of the tuples that is not a slot of the catalog."""
    known = [(kind.name, role.name) for kind in catalog for role in kind.roles if role.derived()]
    for row in slots:
        if row not in known:
            raise BadSlot(row)


def require_sizes(catalog, sizes):
    """Raise BadSize for the first group of the catalog without a size that a group may have."""
    for group in catalog.groups():
        if not SMALLEST_SIZE <= sizes.get(group, 0) <= GREATEST_SIZE:
            raise BadSize(group)


def with_images(catalog, slots):
    """Return a new catalog in which the pages of the slots are written out in the log. Raises BadSlot."""
    require_slots(catalog, slots)
    kinds = []
    for kind in catalog:
        roles = [role.imaged() if (kind.name, role.name) in slots else role for role in kind.roles]
        kinds.append(Kind(kind.name, roles))
    return Catalog(kinds)


def slots_to_cut(edges, placed, group):
    """Return the slots of the group that need an image if exactly the placed groups come before it."""
    return sorted(set([(row[0], row[2]) for row, start, end in edges if end == group and start not in placed]))


def one_group_more(cheapest, groups, edges, sizes):
    """Return for all lots with one group more the price of the cheapest order of the lot, and that order."""
    longer = {}
    for placed in cheapest:
        price, order = cheapest[placed]
        for group in [name for name in groups if name not in placed]:
            total = price + Price(sizes[group], 1) * len(slots_to_cut(edges, placed, group))
            lot = tuple([name for name in groups if name in placed or name == group])
            if lot not in longer or total < longer[lot][0]:
                longer[lot] = (total, [*order, group])
    return longer


def cheapest_images(catalog, sizes):
    """Return the price and the slots of a cheapest choice, and an order for it. Raises BadSize."""
    require_sizes(catalog, sizes)
    groups = catalog.groups()
    edges = edges_of(catalog, dangers(catalog))
    # What a group costs depends only on which groups come before it, not on their order. So it is enough
    # to keep one cheapest order for each lot of groups that may come first.
    cheapest = {(): (Price(0, 0), [])}
    for _ in groups:
        cheapest = one_group_more(cheapest, groups, edges, sizes)
    price, order = cheapest[tuple(groups)]
    slots = []
    for at, group in enumerate(order):
        slots.extend(slots_to_cut(edges, order[:at], group))
    return price, sorted(set(slots)), order


def images_price(log, slots, sizes):
    """Return the price of all images that the steps of the log write. Raises BadSlot and BadSize."""
    require_slots(log.catalog, slots)
    require_sizes(log.catalog, sizes)
    total = Price(0, 0)
    for step in log:
        for role in step.kind.roles:
            if (step.kind.name, role.name) in slots:
                total = total + Price(sizes[role.group], 1)
    return total
