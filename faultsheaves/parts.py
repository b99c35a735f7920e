"""Parts of faults: at some of their leaves, and by a test; and which faults are alike."""

from faultsheaves.errors import NoWay
from faultsheaves.fitting import check_test, holds


def part(ledger, k, ways):
    """The part of a fault at the leaves to which these ways lead: a number, or None."""
    _check_ways(ledger, k, ways)
    return part_at(ledger, k, ways)


def split(ledger, k, test):
    """A fault parted by a test: its part at the leaves that fit, and its part at all others."""
    sided = _sided(ledger, k, test)
    fit = [way for way, side in sided if side == 0]
    left = [way for way, side in sided if side == 1]
    return (part_at(ledger, k, fit), part_at(ledger, k, left))


def placed(ledger, k, test):
    """Where split would put each leaf: a list of tuples (way, side, there)."""
    found = []
    # For each side, the last leaf that went there: its way in the fault, and its way in the part.
    last = [None, None]
    for way, side in _sided(ledger, k, test):
        there = _there(way, last[side])
        last[side] = (way, there)
        found.append((way, side, there))
    return found


def part_at(ledger, k, ways):
    """The part of a fault at leaves whose ways are surely such, each told once."""
    if not ways:
        return None
    if len(ways) == len(ledger.leaves(k)):
        return k
    behind = {}
    for way in ways:
        behind.setdefault(way[0], []).append(way[1:])
    members = ledger.members(k)
    # By places in order, since the ways may come in any.
    return ledger.like(k, [part_at(ledger, members[place], behind[place]) for place in sorted(behind)])


def alike(ledger, k, j):
    """Whether two faults are one and the same, or sheaves that differ in nothing but their numbers."""
    members = ledger.members(k)
    others = ledger.members(j)
    if k == j:
        return True
    if not members or len(members) != len(others):
        return False
    if ledger.text(k) != ledger.text(j) or ledger.notes(k) != ledger.notes(j):
        return False
    if ledger.cause(k) != ledger.cause(j) or ledger.at_work(k) != ledger.at_work(j):
        return False
    for member, other in zip(members, others):
        if not alike(ledger, member, other):
            return False
    return True


def _check_ways(ledger, k, ways):
    """Refuse a fault that is none, then a way that is no leaf's, or that came ahead."""
    waiting = {way: True for way, _ in ledger.leaves(k)}
    for way in ways:
        # To a dict (True,) is (1,), and a list can't be looked for in it: led refuses both.
        ledger.led(k, way)
        if way not in waiting:
            raise NoWay("no leaf stands here, or it came ahead")
        del waiting[way]


def _sided(ledger, k, test):
    """For each leaf, in order, a tuple (way, side): side 0 where it fits, else 1."""
    leaves = ledger.leaves(k)
    check_test(ledger, test)
    return [(way, 0 if holds(ledger, number, test) else 1) for way, number in leaves]


def _there(way, last):
    """The way of a leaf in its part; last are both ways of the leaf ahead of it there, or None."""
    if last is None:
        return (0,) * len(way)
    last_way, last_there = last
    level = 0
    # No leaf's way is the beginning of another one's, so they part ahead of both their ends.
    while way[level] == last_way[level]:
        level += 1
    return last_there[:level] + (last_there[level] + 1,) + (0,) * (len(way) - level - 1)
