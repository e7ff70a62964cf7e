"""Small catalogs and logs for the tests, and the document's words done one by one over them."""

import itertools

from redopages.errors import BadStep
from redopages.kinds import Both, Catalog, Fresh, Kind, Made, Read, Renewed
from redopages.logs import Log
from redopages.store import Disk
from redopages.waits import Waits

SHAPES = (Read, Made, Fresh, Both, Renewed)


class Dice:
    """Numbers that look random and are the same in each run of the tests."""

    def __init__(self, seed):
        self.state = seed

    def below(self, many):
        self.state = (self.state * 6364136223846793005 + 1442695040888963407) % 2 ** 64
        return (self.state >> 33) % many

    def one_of(self, rows):
        return rows[self.below(len(rows))]


def leaf(number):
    return ("leaf", number)


def node(number):
    return ("node", number)


def books():
    """A catalog with kinds of one to six roles and all classes of roles, over the groups leaf, log and node."""
    return Catalog([
        Kind("put", [Fresh("to", "leaf")]),
        Kind("copy", [Read("from", "leaf"), Made("to", "leaf")]),
        Kind("split", [Both("old", "leaf"), Made("new", "leaf"), Renewed("up", "node")]),
        Kind("count", [Read("low", "leaf"), Read("high", "leaf"), Both("sum", "node"), Fresh("note", "log")]),
        Kind("merge", [Read("a", "leaf"), Read("b", "leaf"), Read("c", "node"), Made("d", "leaf"), Both("e", "node")]),
        Kind("all", [Read("a", "leaf"), Made("b", "node"), Fresh("c", "leaf"), Both("d", "leaf"), Renewed("e", "node"),
                     Made("f", "log")]),
        Kind("guess", [Made("new", "leaf"), Made("more", "node")]),
    ])


def log_of(catalog, *steps):
    """A log with these steps, each a tuple of a kind's name and the pages."""
    log = Log(catalog)
    for kind, *pages in steps:
        log.do(kind, pages)
    return log


def disk_of(stamps):
    disk = Disk()
    for page, stamp in stamps.items():
        disk[page] = stamp
    return disk


def some_catalog(dice, shapes=SHAPES, most_roles=3):
    """A catalog with one or two kinds over one or two groups."""
    kinds = []
    for name in ["k", "l"][:1 + dice.below(2)]:
        roles = [dice.one_of(shapes)(role, dice.one_of(["a", "b"])) for role in "xyzuvw"[:1 + dice.below(most_roles)]]
        if not any(role.makes() for role in roles):
            roles[-1] = Made(roles[-1].name, roles[-1].group)
        kinds.append(Kind(name, roles))
    return Catalog(kinds)


def some_waits(dice, catalog, of=3):
    """Each wait that is valid for the catalog, with a chance of one in so many."""
    rows = [(kind.name, first.name, second.name) for kind in catalog for first in kind.roles for second in kind.roles
            if first.name != second.name and second.makes()]
    return Waits([row for row in rows if dice.below(of) == 0])


def some_log(dice, catalog, most=4, numbers=2):
    """A log with up to so many steps over pages with small numbers."""
    log = Log(catalog)
    for _ in range(1 + dice.below(most)):
        kind = dice.one_of(catalog.kinds)
        try:
            log.do(kind.name, [(role.group, dice.below(numbers)) for role in kind.roles])
        except BadStep:
            pass
    return log


def some_disk(dice, log):
    """A disk with any of its versions for each page of the log."""
    return disk_of({page: dice.one_of(log.versions(page)) for page in log.all_pages()})


def state_of(store):
    """All that can be seen of the log and the disk of a store, as plain values."""
    steps = [(step.number, step.kind.name, step.pages) for step in store.log]
    versions = [(page, store.log.versions(page)) for page in store.log.all_pages()]
    return steps, versions, [(page, store.disk[page]) for page in store.disk.stamped()]


def version_after(steps, page):
    """Point 7: the version of the page after these steps."""
    made = [step.number for step in steps for role, own in zip(step.kind.roles, step.pages)
            if own == page and role.makes()]
    return max([0, *made])


def blockers_after(steps, waits, stamps, page):
    """Point 11: the blockers of the page after these steps, if the disk has these stamps."""
    found = []
    for step in steps:
        if step.number <= version_after(steps, page):
            pages = {role.name: own for role, own in zip(step.kind.roles, step.pages)}
            for kind, first, second in waits:
                if kind == step.kind.name and pages[first] == page and stamps[pages[second]] < step.number:
                    found.append(pages[second])
    return sorted(set(found))


def all_ends(log, waits):
    """Points 12, 13: the stamps of the pages at the end of each allowed run that does the steps of the log."""
    steps, pages = list(log), sorted({page for step in log for page in step.pages})
    seen, ahead, ends = set(), [(0, (0,) * len(pages))], set()
    while ahead:
        many, row = ahead.pop()
        if (many, row) in seen:
            continue
        seen.add((many, row))
        if many == len(steps):
            ends.add(row)
        else:
            ahead.append((many + 1, row))
        stamps = dict(zip(pages, row))
        for at, page in enumerate(pages):
            if not blockers_after(steps[:many], waits, stamps, page):
                ahead.append((many, (*row[:at], version_after(steps[:many], page), *row[at + 1:])))
    return sorted(ends)


def stuck_after(steps, waits, stamps):
    """Point 21: the dirty pages that are not flushed however one goes on, found by flushing all that can be."""
    stamps = dict(stamps)
    for _ in range(len(stamps) + 1):
        for page in stamps:
            if not blockers_after(steps, waits, stamps, page):
                stamps[page] = version_after(steps, page)
    return sorted(page for page in stamps if stamps[page] < version_after(steps, page))


def trees_made(step, trees):
    """Point 8: for each page that the step makes its formula, with formulas in the place of their numbers."""
    rows = list(zip(step.kind.roles, step.pages))
    read = tuple(trees[page] for role, page in rows if role.reads())
    made = {}
    for role, page in rows:
        if role.derived():
            made[page] = ("derived", step.number, role.name, read)
        elif role.makes():
            made[page] = ("fresh", step.number, role.name)
    return made


def all_trees(log):
    """Points 7, 8: the formula of each page of the log in each of its versions."""
    pages = {page for step in log for page in step.pages}
    now = {page: ("start", page) for page in pages}
    found = {(page, 0): now[page] for page in pages}
    for step in log:
        made = trees_made(step, now)
        now.update(made)
        found.update({(page, step.number): tree for page, tree in made.items()})
    return found


def redone(log, disk):
    """Point 14: the stamps and formulas after redo, the formulas taken, and the pages made again, by step."""
    trees = all_trees(log)
    pages = sorted({page for step in log for page in step.pages})
    stamps = {page: disk[page] for page in pages}
    now = {page: trees[(page, disk[page])] for page in pages}
    taken, again = {}, {}
    for step in log:
        taken[step.number] = {page: now[page] for page in step.read_pages()}
        made = trees_made(step, now)
        again[step.number] = [page for page in step.pages if page in made and stamps[page] < step.number]
        for page in again[step.number]:
            now[page] = made[page]
            stamps[page] = step.number
    return stamps, now, taken, again


def why_wrong(log, disk):
    """Point 15: the first wrong page and its reason (step, page, stood, stamp), or None if redo is right."""
    trees, steps = all_trees(log), list(log)
    _, now, taken, _ = redone(log, disk)
    wrong = [page for page in sorted(now) if now[page] != trees[(page, version_after(steps, page))]]
    if not wrong:
        return None
    page = wrong[0]
    number = version_after(steps, page)
    while True:
        for other in log[number].read_pages():
            stood = version_after(steps[:number - 1], other)
            if taken[number][other] != trees[(other, stood)]:
                break
        if disk[other] >= number:
            return wrong[0], (number, other, stood, disk[other])
        number = stood


def tree_of(contents, number):
    """A formula of the table, with formulas in the place of their numbers."""
    formula = contents.formula(number)
    if formula[0] != "derived":
        return formula
    return (*formula[:3], tuple(tree_of(contents, part) for part in formula[3]))


def picked(rows):
    """All tuples with one item from each of the rows, in the order of the rows."""
    return list(itertools.product(*rows))
