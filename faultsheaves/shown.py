"""Faults shown: a line for each fault, its members further in."""

from faultsheaves.quotes import quoted


def shown(ledger, k):
    """A fault shown: a line for itself and, two blanks further in, its members likewise."""
    return "\n".join(_lines(ledger, k, ""))


def _lines(ledger, k, ahead):
    """The lines of a fault and of all that stands in it, with these blanks ahead."""
    lines = [ahead + _line(ledger, k)]
    for member in ledger.members(k):
        lines.extend(_lines(ledger, member, ahead + "  "))
    return lines


def _line(ledger, k):
    """The line of a fault itself, without blanks ahead."""
    line = f"{k} {ledger.kind(k)} {ledger.text(k)}"
    for note in ledger.notes(k):
        line = line + " note " + quoted(note)
    if ledger.cause(k) is not None:
        line = f"{line} of {ledger.cause(k)}"
    if ledger.at_work(k) is not None:
        line = f"{line} while {ledger.at_work(k)}"
    return line
