"""Backups that copy a store group by group while it goes on, and the orders in which they are safe."""

from redopages.errors import BadOrder, OutOfTurn
from redopages.judge import danger_flushes, danger_pages, danger_steps, exposed, live, wrong_run
from redopages.store import Disk
from redopages.webs import edges_of, forward_order


def require_order(catalog, order):
    """Raise BadOrder unless the list has each group of the catalog exactly once, and nothing else."""
    groups = catalog.groups()
    if len(order) != len(groups) or sorted(set(order)) != groups:
        raise BadOrder(order)


class Backup:
    """A backup of a store: the stamps of the pages when they were taken, one group after the other."""

    def __init__(self, store, order):
        require_order(store.catalog, order)
        self.store = store
        self.order = tuple(order)
        self.at = 0
        # An advance leaves out the pages without a stamp: nobody can take a page of that group any more.
        self.taken = {}

    @property
    def current(self):
        """The group whose pages may be taken, or None if the backup is finished."""
        return self.order[self.at] if self.at < len(self.order) else None

    def take(self, page):
        """Take the page as it is on disk now, and return its stamp. Raises OutOfTurn."""
        if page[0] != self.current or page in self.taken:
            raise OutOfTurn(page)
        self.taken[page] = self.store.disk[page]
        return self.taken[page]

    def advance(self):
        """Take the rest of the current group as it is on disk now, and go on to the next group."""
        if self.current is not None:
            for page in self.store.disk.stamped():
                if page[0] == self.current and page not in self.taken:
                    self.taken[page] = self.store.disk[page]
            self.at = self.at + 1

    def copied(self):
        """Return a new disk with the stamps of the pages taken so far."""
        disk = Disk()
        for page in list(self.taken):
            disk[page] = self.taken[page]
        return disk


def backup_order(catalog, waits):
    """Return an order of all groups that is safe, or None if there is none. Raises BadWait."""
    if len(exposed(catalog, waits)) > 0:
        return None
    order, left = forward_order(catalog.groups(), edges_of(catalog, live(catalog, waits)))
    return None if left else order


def wrong_backup(catalog, waits, order):
    """Return a run after which redo from the backup is not right, or None. Raises BadWait and BadOrder."""
    waits.require(catalog)
    require_order(catalog, order)
    run = wrong_run(catalog, waits)
    if run is not None:
        # Without an advance before its end, the backup is the disk with which the run ends.
        return run
    edges = edges_of(catalog, live(catalog, waits))
    back = [row for row, start, end in edges if order.index(start) >= order.index(end)]
    if not back:
        return None
    newer, older = danger_pages(catalog, back[0])
    events = danger_steps(catalog, waits, back[0])
    # The older page is taken before the flushes, the newer one only after them.
    events.extend([("advance",)] * order.index(older[0]))
    events.append(("take", older))
    events.extend(danger_flushes(catalog, waits, back[0]))
    return events
