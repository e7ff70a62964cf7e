"""Whether waits make redo right and let no page get stuck; if not, a run or a log that shows it."""

from redopages.errors import MutualWait
from redopages.store import Store
from redopages.waits import Waits
from redopages.webs import cycle_rows, edges_of, forward_order, group_at


def dangers(catalog):
    """Return the lot of all dangers: redo of the second page could read a first page that is too new."""
    made = catalog.made_groups()
    rows = [(kind.name, first, second) for kind in catalog for first, second in kind.pairs()]
    return Waits([row for row in rows if group_at(catalog, row[0], row[1]) in made])


def free_roles(catalog, waits):
    """Return each role that is not blocked, behind the name of its kind."""
    return [(kind.name, role) for kind in catalog for role in kind.roles if not waits.blocked(kind.name, role.name)]


def live(catalog, waits):
    """Return the lot of the dangers whose first page can be flushed after the step. Raises BadWait."""
    waits.require(catalog)
    free = free_roles(catalog, waits)
    movable = [role.group for name, role in free if role.makes()]
    firsts = [(name, role.name) for name, role in free if role.group in movable]
    return Waits([row for row in dangers(catalog) if (row[0], row[1]) in firsts])


def exposed(catalog, waits):
    """Return the lot of the live dangers that a disk can show. Raises BadWait."""
    return Waits([row for row in live(catalog, waits) if row[2] not in waits.reach(row[0], row[1])])


def do_event(kind, number, chosen):
    """Return a step with the chosen pages in the roles of these names, and pages of its own in the other roles."""
    # Chosen pages have numbers below 10, and the number of the step keeps the others apart.
    pages = [chosen.get(role.name, (role.group, 10 * number + at)) for at, role in enumerate(kind.roles)]
    return ("do", kind.name, tuple(pages))


def danger_pages(catalog, row):
    """Return the pages that stand in the first and in the second role of the danger in the steps that show it."""
    return (group_at(catalog, row[0], row[1]), 0), (group_at(catalog, row[0], row[2]), 1)


def danger_steps(catalog, waits, row):
    """Return a list of one or two steps after which the first page of the live danger can be flushed as too new."""
    kind = catalog.named(row[0])
    newer, older = danger_pages(catalog, row)
    events = [do_event(kind, 1, {row[1]: newer, row[2]: older})]
    if not kind.role_named(row[1]).makes():
        makers = [(name, role) for name, role in free_roles(catalog, waits)
                  if role.makes() and role.group == newer[0]]
        again, maker = makers[0]
        events.append(do_event(catalog.named(again), 2, {maker.name: newer}))
    return events


def flushed_up_to(store, page):
    """Flush the page, and before it only the pages for which it waits; return the events."""
    events = []
    behind = store.blockers(page)
    while behind:
        events.extend(flushed_up_to(store, behind[0]))
        behind = store.blockers(page)
    store.flush(page)
    events.append(("flush", page))
    return events


def danger_flushes(catalog, waits, row):
    """Return the flushes that, after the steps for the live danger, end with the flush of its first page."""
    store = Store(catalog, waits)
    store.play(danger_steps(catalog, waits, row))
    return flushed_up_to(store, danger_pages(catalog, row)[0])


def wrong_run(catalog, waits):
    """Return an allowed run after which redo is not right, or None if there is none. Raises BadWait."""
    found = exposed(catalog, waits)
    if not found.rows:
        return None
    row = found.rows[0]
    return danger_steps(catalog, waits, row) + danger_flushes(catalog, waits, row)


def least_waits(catalog):
    """Return the least lot of waits that is safe. Raises MutualWait."""
    for kind in catalog:
        if len([role for role in kind.roles if role.reads() and role.derived()]) > 1:
            raise MutualWait(kind.name)
    rows = dangers(catalog).rows
    chained = [(kind, first, last) for kind, first, second in rows for name, third, last in rows
               if name == kind and third == second]
    return Waits([row for row in rows if row not in chained])


def sticking_log(catalog, waits):
    """Return a list of steps after which a page is stuck, or None if no page can get stuck. Raises BadWait."""
    waits.require(catalog)
    edges = edges_of(catalog, waits)
    left = forward_order(catalog.groups(), edges)[1]
    if not left:
        return None
    rows = cycle_rows(left, edges)
    if len(rows) == 1:
        # An edge from a group to itself leads from one page of the group to another one, and back.
        rows = rows * 2
    events = []
    # A wait binds a page only from the step on that makes it, so the first step is done once more at the end.
    for number in range(len(rows) + 1):
        kind, first, second = rows[number % len(rows)]
        waiting = (group_at(catalog, kind, first), (number + 1) % len(rows))
        ahead = (group_at(catalog, kind, second), number % len(rows))
        events.append(do_event(catalog.named(kind), number + 1, {first: waiting, second: ahead}))
    return events
