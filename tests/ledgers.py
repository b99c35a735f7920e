"""What several tests need: a few kinds and faults, and all that a ledger tells, at one look."""

from faultsheaves.kinds import Kinds
from faultsheaves.ledger import Ledger

PAIRS = [("io", "fault"), ("disk", "io"), ("net", "io"), ("math", "fault"), ("zero", "math")]

# Things of all sorts that are no text.
NO_TEXTS = [None, True, False, 0, 1, -1, [], ["io"], (), ("io",), {}, {"io": 1}]

# Things of all sorts that are no kind of PAIRS.
NO_KINDS = ["", "i", "ios", "IO", "Io", " io", "io ", "fault ", "Fault", "io1", "faults", "abcdefghi", "none"] + NO_TEXTS


def some_kinds():
    """Kinds with two rows of kinds beneath `fault`."""
    return Kinds(list(PAIRS))


def empty_ledger():
    """A ledger without faults."""
    return Ledger(some_kinds())


def some_ledger():
    """A ledger of nine faults: sheaves in sheaves, members twice, notes, causes, some at work."""
    ledger = empty_ledger()
    ledger.plain("disk", "full")
    ledger.plain("net", "gone")
    ledger.plain("fault", "")
    ledger.sheaf("two", [0, 1])
    ledger.sheaf("again", [1, 3, 1])
    ledger.plain("zero", "by nought")
    ledger.sheaf("", [5])
    ledger.sheaf("deep", [6, 4, 2, 3])
    ledger.plain("io", "full")
    ledger.note(0, "first")
    ledger.note(3, "b")
    ledger.note(3, "a")
    ledger.note(3, "b")
    ledger.blame(3, 5)
    ledger.blame(1, 1)
    ledger.rise(1, 0)
    ledger.rise(3, 1)
    return ledger


def told(ledger):
    """All that a ledger tells of its faults."""
    return [told_of(ledger, k) for k in range(ledger.many())]


def told_of(ledger, k):
    """All that a ledger tells of one fault."""
    return (
        ledger.kind(k), ledger.text(k), ledger.members(k), ledger.notes(k),
        ledger.cause(k), ledger.at_work(k), ledger.leaves(k),
    )


def no_numbers(ledger):
    """Things of all sorts, None left out, that are no number of a fault of this ledger."""
    many = ledger.many()
    far = [many, many + 1, many + 1000, 10 ** 30, -1, -2, -many - 1, -(10 ** 30)]
    return far + [True, False, "", "0", "1", [], [0], (), (0,), {}, {0: 0}]
