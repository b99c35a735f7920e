"""Causes: what a fault came of, what that came of, and so on."""


def row(ledger, k):
    """The row of a fault: itself, what it came of, what that came of, and so on, each once."""
    found = [k]
    number = _came_of(ledger, k)
    while number is not None and number not in found:
        found.append(number)
        number = _came_of(ledger, number)
    return found


def _came_of(ledger, k):
    """The cause of a fault, or, where it has none, what was at work for it, or None."""
    cause = ledger.cause(k)
    if cause is not None:
        return cause
    return ledger.at_work(k)
