"""Disks, stores whose pages are flushed under waits, and the disks that a crash can leave."""

from redopages.errors import BadStamp, Held
from redopages.logs import Log


class Disk:
    """The stamp of each page; a page that was never flushed has the stamp 0."""

    def __init__(self):
        # Only stamps above 0 are kept, so that equal disks have equal dicts.
        self.stamps = {}

    def __getitem__(self, page):
        return self.stamps.get(page, 0)

    def __setitem__(self, page, version):
        if version < 0:
            raise BadStamp(page, version)
        if version == 0:
            self.stamps.pop(page, None)
        else:
            self.stamps[page] = version

    def __contains__(self, page):
        return page in self.stamps

    def __iter__(self):
        raise TypeError("a disk is not iterated over")

    def __len__(self):
        return len(self.stamps)

    def __eq__(self, other):
        return isinstance(other, Disk) and self.stamps == other.stamps

    def stamped(self):
        """Return the ascending list of the pages whose stamp is greater than 0."""
        return sorted(set(self.stamps))

    def copied(self):
        """Return a new disk with the same stamps."""
        twin = Disk()
        twin.stamps = {page: self.stamps[page] for page in self.stamps}
        return twin


def require_stamps(log, disk):
    """Raise BadStamp for the first page whose stamp on the disk is not one of its versions in the log."""
    for page in disk.stamped():
        if disk[page] not in log.versions(page):
            raise BadStamp(page, disk[page])


def pages_ahead(waits, step, role):
    """Return the pages for which the page in this role waits because of the step."""
    return [step.page_at(second) for second in waits.after(step.kind.name, role)]


class Store:
    """A log and a disk, to which pages are flushed only as a lot of waits allows."""

    def __init__(self, catalog, waits):
        waits.require(catalog)
        self.catalog = catalog
        self.waits = waits
        self.log = Log(catalog)
        self.disk = Disk()

    def do(self, kind, pages):
        """Do a step and return its number. Raises NoKind and BadStep."""
        return self.log.do(kind, pages)

    def blockers(self, page):
        """Return the ascending list of the pages that must be flushed before the page."""
        version = self.log.last_version(page)
        found = set()
        for step in self.log.steps_with(page):
            # A flush writes no change of a later step, so the waits of later steps do not bind it.
            if step.number <= version:
                role = step.kind.roles[step.pages.index(page)]
                for other in pages_ahead(self.waits, step, role.name):
                    if self.disk[other] < step.number:
                        found.add(other)
        return sorted(found)

    def flush(self, page):
        """Flush the page and return its stamp. Raises Held."""
        behind = self.blockers(page)
        if behind:
            raise Held(page, behind)
        self.disk[page] = self.log.last_version(page)
        return self.disk[page]

    @property
    def dirty(self):
        """The ascending list of the pages that have a newer version than their stamp."""
        return [page for page in self.log.all_pages() if self.log.last_version(page) > self.disk[page]]

    def ready(self):
        """Yield the dirty pages whose flush is allowed, in ascending order."""
        for page in self.dirty:
            if not self.blockers(page):
                yield page

    def stuck(self):
        """Return the ascending list of the dirty pages that no sequence of allowed flushes reaches."""
        waiting = {page: self.blockers(page) for page in self.dirty}
        free = [page for page in waiting if not waiting[page]]
        while free:
            for page in free:
                del waiting[page]
            free = [page for page in waiting if not any([other in waiting for other in waiting[page]])]
        return sorted(set(waiting))

    def perform(self, event):
        """Do the step or the flush that the event asks for. Raises NoKind, BadStep and Held."""
        if event[0] == "do":
            self.do(event[1], event[2])
        else:
            self.flush(event[1])

    def play(self, events, *, at=None):
        """Perform all events or the first of them, or none if one raises an error; return how many."""
        first = events[:at]
        # The events change copies, so an error on the way leaves the store as it was.
        trial = Store(self.catalog, self.waits)
        trial.log = self.log.copied()
        trial.disk = self.disk.copied()
        for event in first:
            trial.perform(event)
        self.log = trial.log
        self.disk = trial.disk
        return len(first)

    def crash(self):
        """Return a new disk with the stamps that are on disk now."""
        return self.disk.copied()


def flushed_toward(store, step, disk):
    """Flush what the store may of the pages that its last step made, unless they are older on the disk."""
    wanted = [page for page in step.made_pages() if step.number <= disk[page]]
    events = []
    free = [page for page in wanted if not store.blockers(page)]
    while free:
        for page in free:
            store.flush(page)
            events.append(("flush", page))
        wanted = [page for page in wanted if page not in free]
        free = [page for page in wanted if not store.blockers(page)]
    return events


def crash_run(log, waits, disk):
    """Return an allowed run that does the steps of the log and ends with the disk, or None."""
    store = Store(log.catalog, waits)
    require_stamps(log, disk)
    events = []
    for step in list(log):
        store.do(step.kind.name, step.pages)
        events.append(("do", step.kind.name, step.pages))
        # If some run ends with the disk, all pages of earlier steps are by now as this one needs them.
        events.extend(flushed_toward(store, step, disk))
    return events if store.disk == disk else None


def rules_for(log, waits):
    """Return a row for each page that waits because of a step: what its flushes need from that step on."""
    rules = []
    for step in log:
        for role, page in zip(step.kind.roles, step.pages):
            ahead = pages_ahead(waits, step, role.name)
            if ahead:
                blocked = waits.blocked(step.kind.name, role.name)
                rules.append((step.number, page, ahead, blocked))
    return rules


def keeps(stamps, rule):
    """Tell whether the stamps keep the rule: a page in a blocked role is never flushed from the step on."""
    number, page, ahead, blocked = rule
    if stamps[page] < number:
        return True
    return not blocked and all([stamps[other] >= number for other in ahead])


def picks(rows):
    """Return all tuples with one item from each of the ascending lists, in ascending order."""
    found = [()]
    for row in rows:
        found = [(*start, item) for start in found for item in row]
    return found


def crash_states(log, waits):
    """Yield each disk that the log can leave, as the tuple of the stamps of all pages, ascending."""
    pages = log.all_pages()
    rules = rules_for(log, waits)
    for stamps in picks([log.versions(page) for page in pages]):
        disk = dict(zip(pages, stamps))
        if all([keeps(disk, rule) for rule in rules]):
            yield stamps
