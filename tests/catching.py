"""What the tests of catchers need: what is wanted of them, by the words of the document."""

from faultsheaves.fitting import fits

from parting import check_part, wanted_part


def wanted_taken(ledger, k, tests):
    """For each test the ways of the leaves that it takes, and those that are left."""
    taken = [[] for _ in tests]
    left = []
    for way, number in ledger.leaves(k):
        fitting = [at for at, test in enumerate(tests) if fits(ledger, number, test)]
        (taken[fitting[0]] if fitting else left).append(way)
    return (taken, left)


def wanted_hand(ledger, k, ways):
    """What check_part is to find in the hand that takes these leaves."""
    if ledger.kind(k) != "sheaf" and ways:
        return ("", [], None, None, [k])
    return wanted_part(ledger, k, ways)


def check_taken(case, ledger, many, k, tests, told):
    """These are the hands, and what is left, where so many faults were there ahead."""
    case.assertIs(told.__class__, tuple)
    case.assertEqual(len(told), 2)
    hands, left = told
    case.assertIs(hands.__class__, list)
    case.assertEqual(len(hands), len(tests))
    taken, rest = wanted_taken(ledger, k, tests)
    for hand, ways in zip(hands, taken):
        check_part(case, ledger, many, wanted_hand(ledger, k, ways), hand)
    check_part(case, ledger, many, wanted_part(ledger, k, rest), left)


def wanted_out(ledger, k, told, again, anew):
    """What check_part is to find in what comes out."""
    hands, left = told
    back = {j for _, j in ledger.leaves(left)} if left is not None else set()
    for hand, rose in zip(hands, again):
        if rose and hand is not None:
            back |= {j for _, j in ledger.leaves(hand)}
    part = wanted_part(ledger, k, [way for way, j in ledger.leaves(k) if j in back])
    if not anew:
        return part
    return ("", [], None, None, list(anew) + ([] if part is None else [part]))
