"""Catchers: which whole fault goes where, what is taken out of one, and what comes out in the end."""

from faultsheaves.fitting import check_test, holds
from faultsheaves.parts import part_at


def first_fit(ledger, k, tests):
    """The place of the first test that a fault fits as it is, or None."""
    # Asked for its refusal alone: a fault that is none goes ahead of tests that are none.
    ledger.kind(k)
    _check_tests(ledger, tests)
    return _first(ledger, k, tests)


def taken_out(ledger, k, tests):
    """What each test takes out of a fault, and what is left: a tuple (hands, left)."""
    leaves = ledger.leaves(k)
    _check_tests(ledger, tests)
    taken = [[] for _ in tests]
    rest = []
    for way, number in leaves:
        place = _first(ledger, number, tests)
        if place is None:
            rest.append(way)
        else:
            taken[place].append(way)
    # The part of what was left so far is, at the same leaves, alike to that of the fault itself.
    hands = [_hand(ledger, k, ways) for ways in taken]
    return (hands, part_at(ledger, k, rest))


def come_out(ledger, k, told, again, anew):
    """What comes out of the catchers, where these hands rose again and these faults rose anew."""
    ledger.kind(k)
    for number in anew:
        ledger.kind(number)
    hands, left = told
    back = _back(ledger, k, [left] + [hand for hand, rose in zip(hands, again) if rose])
    if not anew:
        return back
    return ledger.sheaf("", anew if back is None else [*anew, back])


def _check_tests(ledger, tests):
    """Refuse a list in which a thing is no test."""
    for test in tests:
        check_test(ledger, test)


def _first(ledger, k, tests):
    """The place of the first of what surely are tests that a fault fits, or None."""
    for place, test in enumerate(tests):
        if holds(ledger, k, test):
            return place
    return None


def _hand(ledger, k, ways):
    """What a catcher has in hand that takes the leaves to which these ways lead."""
    if ways and ledger.kind(k) != "sheaf":
        return ledger.sheaf("", [k])
    return part_at(ledger, k, ways)


def _back(ledger, k, others):
    """The part of a fault at those of its leaves that are leaves of one of these, too; None is none."""
    found = {}
    for other in others:
        if other is not None:
            found.update({number: True for _, number in ledger.leaves(other)})
    return part_at(ledger, k, [way for way, number in ledger.leaves(k) if number in found])
