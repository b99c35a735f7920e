"""What the tests of parts need: many ledgers, many tests, and what parts are wanted by the words of the document."""

from faultsheaves.kinds import Kinds
from faultsheaves.ledger import Ledger

from ledgers import PAIRS

# Tests by PAIRS, each of another sort, some that all leaves fit, some that none does.
SOME_TESTS = [
    ("kind", "fault"), ("kind", "sheaf"), ("kind", "io"), ("kind", "disk"), ("kind", "zero"),
    ("says", "full"), ("says", ""), ("says", "nowhere"),
    ("noted", "first"), ("noted", "b"), ("noted", ""),
    ("not", ("kind", "io")), ("not", ("kind", "sheaf")), ("not", ("noted", "b")),
    ("and", ("kind", "io"), ("says", "full")), ("and", ("kind", "io"), ("not", ("says", "full"))),
    ("or", ("says", ""), ("noted", "b")), ("or", ("kind", "math"), ("says", "gone")),
    ("not", ("or", ("noted", "a"), ("and", ("kind", "net"), ("not", ("says", "gone"))))),
]


class Dice:
    """Numbers without a rule to see, but the same each time."""

    def __init__(self, seed):
        self._now = seed * 7919 + 17

    def below(self, many):
        self._now = (self._now * 1103515245 + 12345) % (2 ** 31)
        return (self._now >> 8) % many

    def one_of(self, things):
        return things[self.below(len(things))]


def grown_ledger(seed):
    """A ledger of seventeen faults, grown by dice: sheaves in sheaves, members twice, notes, causes, at work."""
    dice = Dice(seed)
    ledger = Ledger(Kinds(list(PAIRS)))
    plain = ["fault", "io", "disk", "net", "math", "zero"]
    for k in range(17):
        if k < 5:
            ledger.plain(dice.one_of(plain), dice.one_of(["", "full", "gone"]))
        else:
            ledger.sheaf(dice.one_of(["", "two", "full"]), small_members(ledger, dice, k))
        for _ in range(dice.below(3)):
            ledger.note(k, dice.one_of(["a", "b", "", "first"]))
    for k in range(17):
        if dice.below(2) == 0:
            ledger.blame(k, dice.below(17))
        if dice.below(2) == 0:
            ledger.rise(k, dice.below(17))
    return ledger


def small_members(ledger, dice, many):
    """Faults of the ledger with not too many leaves together."""
    members = [dice.below(many) for _ in range(1 + dice.below(4))]
    while len(members) > 1 and sum(len(ledger.leaves(k)) for k in members) > 40:
        members = members[1:]
    if len(ledger.leaves(members[0])) > 40:
        members = [0]
    return members


def wanted_part(ledger, k, ways):
    """None, the very number, or, for a new sheaf, a tuple of all that it is to have."""
    leaves = [way for way, _ in ledger.leaves(k)]
    chosen = [way for way in leaves if way in ways]
    if not chosen:
        return None
    if chosen == leaves:
        return k
    members = []
    for place, member in enumerate(ledger.members(k)):
        inner = wanted_part(ledger, member, [way[1:] for way in chosen if way[0] == place])
        members += [] if inner is None else [inner]
    return (ledger.text(k), ledger.notes(k), ledger.cause(k), ledger.at_work(k), members)


def check_part(case, ledger, many, wanted, number):
    """This number is the wanted part, where so many faults were there ahead of it."""
    if wanted is None:
        case.assertIsNone(number)
        return
    case.assertIs(number.__class__, int)
    if isinstance(wanted, int):
        case.assertEqual(number, wanted)
        return
    text, notes, cause, at_work, members = wanted
    case.assertGreaterEqual(number, many)
    case.assertLess(number, ledger.many())
    case.assertEqual((ledger.kind(number), ledger.text(number)), ("sheaf", text))
    case.assertEqual(ledger.notes(number), notes)
    case.assertEqual((ledger.cause(number), ledger.at_work(number)), (cause, at_work))
    told = ledger.members(number)
    case.assertEqual(len(told), len(members))
    for member, inner in zip(told, members):
        check_part(case, ledger, many, inner, member)


def fitting_ways(ledger, k, fit):
    """The ways of those leaves of which fit, asked with the leaf's number, is true, and of the others."""
    leaves = ledger.leaves(k)
    return ([way for way, j in leaves if fit(j)], [way for way, j in leaves if not fit(j)])
