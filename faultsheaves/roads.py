"""Roads: what events tell of a plain fault, by itself and as a leaf of others."""

from faultsheaves.errors import NoFault


def road(ledger, events, k):
    """The road of a plain fault in these events: a list of tuples."""
    if ledger.kind(k) == "sheaf":
        raise NoFault("a sheaf has no road")
    found = []
    known = {k: True}
    for event in events:
        number = _told_of(event)
        if number is not None and _has_leaf(ledger, number, known):
            found.append(_mark(event, number, k))
    return found


def _told_of(event):
    """The fault of which an event tells, or None."""
    word = event[0]
    if word in ("rise", "again", "take", "come", "off"):
        return event[-1]
    if word in ("leave", "end") and event[-1][0] == "rose":
        return event[-1][1]
    return None


def _has_leaf(ledger, number, known):
    """Whether the leaf is among those of this fault; known is what is known of some already, of the leaf, too."""
    # A twin that was made ahead of the event doesn't have all faults: one that rose in a later run has none of its own.
    if number >= ledger.many():
        return False
    if number not in known:
        known[number] = any([_has_leaf(ledger, member, known) for member in ledger.members(number)])
    return known[number]


def _mark(event, number, k):
    """What an event that tells of this fault adds to the road of k."""
    word = event[0]
    if word == "rise":
        return ("rose",) if number == k else ("gathered", number)
    if word == "again":
        return ("again", number)
    if word == "take":
        return ("taken", event[1], event[2])
    if word == "come":
        return ("came", event[1])
    if word == "off":
        return ("off", event[1])
    if word == "leave":
        return ("left", event[1])
    return ("out",)
