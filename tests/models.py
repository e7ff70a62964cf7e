"""Points 16 to 25 done word by word over small catalogs, and drawn catalogs, runs and backups for the tests."""

import itertools

from redopages.backups import Backup
from redopages.errors import BadStep
from redopages.kinds import Catalog, Kind, Made
from redopages.logs import Contents, Log
from redopages.redo import check
from redopages.store import Store
from samples import SHAPES, blockers_after, disk_of, version_after


def shape_of(catalog):
    """All that can be seen of a catalog, as plain values."""
    return [(kind.name, [(role.name, role.group, role.MARK) for role in kind.roles]) for kind in catalog]


def wide_catalog(dice, most_kinds=3, most_roles=4, groups=("a", "b", "c"), shapes=SHAPES):
    """A catalog with up to so many kinds and roles over these groups, which may have none at all."""
    kinds = []
    for name in "klmnopqr"[:dice.below(most_kinds + 1)]:
        roles = [dice.one_of(shapes)(role, dice.one_of(groups)) for role in "xyzuvw"[:1 + dice.below(most_roles)]]
        if not any(role.makes() for role in roles):
            roles[0] = Made(roles[0].name, roles[0].group)
        kinds.append(Kind(name, roles))
    return Catalog(kinds)


def valid_waits(catalog):
    """Point 11: each wait that is valid for the catalog."""
    return [(kind.name, first.name, second.name) for kind in catalog for first in kind.roles for second in kind.roles
            if first.name != second.name and second.makes()]


def group_named(catalog, kind, role):
    return [own.group for shape in catalog for own in shape.roles if (shape.name, own.name) == (kind, role)][0]


def danger_rows(catalog):
    """Point 16: the dangers, ascending."""
    made = {role.group for kind in catalog for role in kind.roles if role.makes()}
    return sorted((kind.name, first.name, second.name) for kind in catalog
                  for first in kind.roles for second in kind.roles
                  if first.name != second.name and first.reads() and second.derived() and first.group in made)


def slots_of(catalog):
    """Point 22: all slots of the catalog, in its order."""
    return [(kind.name, role.name) for kind in catalog for role in kind.roles if role.MARK in ("m", "rm")]


def paths(rows):
    """Point 17: all (kind, role, other) where a path of one or more waits leads from the role to the other."""
    found = set(rows)
    for _ in range(6):
        found |= {(kind, first, last) for kind, first, second in found for name, third, last in rows
                  if (kind, second) == (name, third)}
    return found


def blocked_roles(rows):
    """Point 17: all (kind, role) that are blocked by these waits."""
    leads = paths(rows)
    rings = {(kind, first) for kind, first, last in leads if first == last}
    return rings | {(kind, first) for kind, first, last in leads if (kind, last) in rings}


def live_rows(catalog, rows):
    """Point 18: the live dangers, ascending."""
    blocked = blocked_roles(rows)
    movable = {role.group for kind in catalog for role in kind.roles
               if role.makes() and (kind.name, role.name) not in blocked}
    return [row for row in danger_rows(catalog)
            if row[:2] not in blocked and group_named(catalog, *row[:2]) in movable]


def exposed_rows(catalog, rows):
    """Point 18: the exposed dangers, ascending."""
    leads = paths(rows)
    return [row for row in live_rows(catalog, rows) if row not in leads]


def edges_by_word(catalog, rows):
    """Points 21, 22: the edges between groups for these waits or dangers."""
    return {(group_named(catalog, kind, first), group_named(catalog, kind, second)) for kind, first, second in rows}


def has_cycle(edges):
    """Tell whether the edges have a cycle, by joining edges until there is nothing new."""
    found = set(edges)
    while True:
        more = {(start, last) for start, end in found for other, last in edges if other == end} - found
        if not more:
            return any(start == end for start, end in found)
        found |= more


def leads_forward(order, edges):
    return all(order.index(start) < order.index(end) for start, end in edges)


def short_logs(catalog):
    """All logs of one step and of two, but for the numbers of the pages."""
    for kind in catalog:
        log = Log(catalog)
        log.do(kind.name, [(role.group, at) for at, role in enumerate(kind.roles)])
        yield log
        for other in catalog:
            for picks in itertools.product(range(len(kind.roles) + 1), repeat=len(other.roles)):
                pages = [log[1].pages[pick] if pick < len(kind.roles) else (role.group, 10 + at)
                         for at, (pick, role) in enumerate(zip(picks, other.roles))]
                longer = Log(catalog)
                longer.do(kind.name, log[1].pages)
                try:
                    longer.do(other.name, pages)
                except BadStep:
                    continue
                yield longer


def backup_ends(log, waits, order):
    """Points 24, 25: the backups, as tuples of stamps of all pages, after all runs that do the steps of the log."""
    steps, pages = list(log), log.all_pages()
    nothing = (None,) * len(pages)
    seen, ahead, ends = set(), [(0, (0,) * len(pages), 0, nothing)], set()
    while ahead:
        state = many, row, at, taken = ahead.pop()
        if state in seen:
            continue
        seen.add(state)
        if many < len(steps):
            ahead.append((many + 1, row, at, taken))
        elif at == len(order):
            ends.add(taken)
        stamps = dict(zip(pages, row))
        for index, page in enumerate(pages):
            if not blockers_after(steps[:many], waits, stamps, page):
                newer = (*row[:index], version_after(steps[:many], page), *row[index + 1:])
                ahead.append((many, newer, at, taken))
            if at < len(order) and page[0] == order[at] and taken[index] is None:
                ahead.append((many, row, at, (*taken[:index], row[index], *taken[index + 1:])))
        if at < len(order):
            rest = tuple(row[index] if page[0] == order[at] and taken[index] is None else taken[index]
                         for index, page in enumerate(pages))
            ahead.append((many, row, at + 1, rest))
    return sorted(ends)


def is_right(log, disk):
    """Tell whether check raises nothing; a stamp that is no version of its page is an error of the test."""
    return check(log, disk, Contents()) is None


def drawn_step(dice, store, numbers=3):
    """Do a step of some kind over pages with small numbers, if the store has kinds and the pages fit."""
    if len(store.catalog) > 0:
        kind = dice.one_of(store.catalog.kinds)
        try:
            store.do(kind.name, [(role.group, dice.below(numbers)) for role in kind.roles])
        except BadStep:
            pass


def drawn_flush(dice, store):
    """Flush some page whose flush is allowed, if there is one."""
    ready = list(store.ready())
    if ready:
        store.flush(dice.one_of(ready))


def drawn_run(dice, catalog, waits, events=12, numbers=3):
    """A store after so many drawn steps and allowed flushes."""
    store = Store(catalog, waits)
    for _ in range(events):
        if dice.below(2):
            drawn_step(dice, store, numbers)
        else:
            drawn_flush(dice, store)
    return store


def disk_from(log, stamps):
    """The disk with these stamps for the pages of the log in ascending order."""
    return disk_of(dict(zip(log.all_pages(), stamps)))


def backed_up(catalog, waits, order, events):
    """Point 25: the store and the finished backup after a run with a backup."""
    store = Store(catalog, waits)
    backup = Backup(store, order)
    for word, *rest in events:
        {"do": store.do, "flush": store.flush, "take": backup.take, "advance": backup.advance}[word](*rest)
    while backup.current is not None:
        backup.advance()
    return store, backup


def drawn_backup(dice, catalog, waits, order, events=20, numbers=3):
    """The store and the finished backup after drawn steps, allowed flushes, takes and advances."""
    store = Store(catalog, waits)
    backup = Backup(store, order)
    taken = []
    for _ in range(events):
        pick = dice.below(8)
        page = (backup.current, dice.below(numbers))
        if pick < 3:
            drawn_step(dice, store, numbers)
        elif pick < 6:
            drawn_flush(dice, store)
        elif pick == 6 and backup.current is not None and page not in taken:
            backup.take(page)
            taken.append(page)
        elif dice.below(2):
            backup.advance()
    while backup.current is not None:
        backup.advance()
        drawn_flush(dice, store)
    return store, backup
