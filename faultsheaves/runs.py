"""Runs: how the steps of a program are done, and what is told of it."""

from faultsheaves.catchers import come_out, first_fit, taken_out

WENT = ("went",)


class Run:
    """What all steps of a run look at and add to."""

    def __init__(self, bodies, faults, told):
        self.bodies = bodies
        self.faults = faults
        self.told = told
        # The faults that are at work and have not ended; the one that began last stands at the end.
        self.working = []


def done(run, steps, held):
    """The outcome of a body; held is (k, way): what is in hand, and the way of the catcher's room, or None."""
    for step in steps:
        action = _ACTIONS[step[0]]
        outcome = action(run, step, held)
        if outcome != WENT:
            return outcome
    return WENT


def _say(run, step, held):
    run.told.append(("say", step[1]))
    return WENT


def _raise(run, step, held):
    return _risen(run, "rise", run.faults.plain(step[1], step[2]))


def _raiseof(run, step, held):
    new = run.faults.plain(step[1], step[2])
    run.faults.blame(new, held[0])
    return _risen(run, "rise", new)


def _again(run, step, held):
    return _risen(run, "again", held[0])


def _note(run, step, held):
    k, way = held
    numbers = [k]
    if way == "out":
        # As keys of a dict, so that a leaf that stands at several places is noted once.
        numbers = list({number: True for _, number in run.faults.leaves(k)})
    for number in numbers:
        run.faults.note(number, step[1])
    return WENT


def _answer(run, step, held):
    return ("answer", step[1])


def _call(run, step, held):
    # What is in hand here is not in hand in the body that is called.
    outcome = done(run, run.bodies[step[1]], None)
    return WENT if outcome[0] == "answer" else outcome


def _gather(run, step, held):
    rose = []
    for body in step[2]:
        outcome = done(run, body, held)
        # No answer comes out of a gather's bodies, so what did not go rose.
        if outcome != WENT:
            rose.append(outcome[1])
    if not rose:
        return WENT
    return _risen(run, "rise", run.faults.sheaf(step[1], rose))


def _room(run, step, held):
    _, name, body, way, catchers, otherwise, leaving = step
    run.told.append(("enter", name))
    outcome = done(run, body, held)
    if outcome == WENT:
        outcome = done(run, otherwise, held)
    elif outcome[0] == "rose" and way == "whole":
        outcome = _caught_whole(run, name, catchers, outcome[1])
    elif outcome[0] == "rose":
        outcome = _caught_out(run, name, catchers, outcome[1])
    outcome = _left(run, name, leaving, held, outcome)
    run.told.append(("leave", name, outcome))
    return outcome


def _caught_whole(run, name, catchers, k):
    """The outcome of a whole room so far, from whose body this fault rose."""
    place = first_fit(run.faults, k, [test for test, _ in catchers])
    if place is None:
        return ("rose", k)
    _, body = catchers[place]
    return _taken(run, name, place, body, (k, "whole"))


def _caught_out(run, name, catchers, k):
    """The outcome of an out room so far, from whose body this fault rose."""
    told = taken_out(run.faults, k, [test for test, _ in catchers])
    hands, _ = told
    again = []
    anew = []
    for place, hand in enumerate(hands):
        _, body = catchers[place]
        outcome = WENT if hand is None else _taken(run, name, place, body, (hand, "out"))
        again.append(outcome == ("rose", hand))
        # No answer comes out of these catchers' bodies, so what did not go rose.
        if outcome not in (WENT, ("rose", hand)):
            anew.append(outcome[1])
    if not any([hand is not None for hand in hands]):
        return ("rose", k)
    out = come_out(run.faults, k, told, again, anew)
    if out is None:
        return WENT
    # It is on its way without rising: nothing is at work for it.
    run.told.append(("come", name, out))
    return ("rose", out)


def _taken(run, name, place, body, held):
    """The outcome of a catcher's body with this in hand."""
    k, _ = held
    run.told.append(("take", name, place, k))
    run.working.append(k)
    outcome = done(run, body, held)
    run.working.pop()
    return outcome


def _left(run, name, leaving, held, outcome):
    """The outcome of a room behind its leaving, where this was the outcome so far."""
    run.told.append(("leaving", name))
    if outcome[0] != "rose":
        behind = done(run, leaving, held)
        return outcome if behind == WENT else behind
    run.working.append(outcome[1])
    behind = done(run, leaving, held)
    run.working.pop()
    # What rises once more while it is on its way is not put off by itself.
    if behind in (WENT, outcome):
        return outcome
    run.told.append(("off", name, outcome[1]))
    return behind


def _risen(run, word, k):
    """The outcome of a step by which this fault rises."""
    run.faults.rise(k, run.working[-1] if run.working else None)
    run.told.append((word, k))
    return ("rose", k)


_ACTIONS = {
    "say": _say, "raise": _raise, "raiseof": _raiseof, "again": _again, "note": _note,
    "answer": _answer, "call": _call, "gather": _gather, "room": _room,
}
