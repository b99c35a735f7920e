"""Tests: what is one, and which faults fit it."""

from faultsheaves.checks import is_text
from faultsheaves.errors import NoTest

# For each word ahead of other tests: how many tests stand behind it.
_TESTS_BEHIND = {"not": 1, "and": 2, "or": 2}


def is_test(kinds, thing):
    """Whether this is a test by these kinds; asked of anything."""
    # Looked through by a list instead of by calls within calls, so that no depth is too deep.
    waiting = [thing]
    while waiting:
        found = waiting.pop()
        # A first word that is a list or a dict can't be looked for in a dict.
        if not isinstance(found, tuple) or not found or not is_text(found[0]):
            return False
        if found[0] in _TESTS_BEHIND:
            if len(found) != 1 + _TESTS_BEHIND[found[0]]:
                return False
            waiting.extend(found[1:])
        elif not _is_single(kinds, found):
            return False
    return True


def fits(ledger, k, test):
    """Whether a fault fits a test, by its own kind, text and notes."""
    # Asked for its refusal alone: a fault that is none goes ahead of a test that is none.
    ledger.kind(k)
    check_test(ledger, test)
    return holds(ledger, k, test)


def check_test(ledger, test):
    """Refuse what is no test by the kinds of this ledger."""
    if not is_test(ledger.kinds(), test):
        raise NoTest("this is no test")


def holds(ledger, k, test):
    """Whether a fault fits what surely is a test."""
    word = test[0]
    if word == "not":
        return not holds(ledger, k, test[1])
    if word == "and":
        return holds(ledger, k, test[1]) and holds(ledger, k, test[2])
    if word == "or":
        return holds(ledger, k, test[1]) or holds(ledger, k, test[2])
    if word == "kind":
        return ledger.kinds().stands_under(ledger.kind(k), test[1])
    if word == "says":
        return ledger.text(k) == test[1]
    return test[1] in ledger.notes(k)


def _is_single(kinds, thing):
    """Whether this tuple is a test that has no other tests in it."""
    if len(thing) != 2:
        return False
    word, told = thing
    if word == "kind":
        return kinds.is_kind(told)
    return word in ("says", "noted") and is_text(told)
