"""Programs: what is one, by some kinds, and copies of their bodies."""

from faultsheaves.checks import is_name, is_text, is_whole
from faultsheaves.fitting import is_test

# For each word of a step: how many parts the step has, the word counted.
_PARTS = {
    "say": 2, "raise": 3, "answer": 2, "call": 2, "gather": 3,
    "again": 1, "note": 2, "raiseof": 3, "room": 7,
}

# The words of the steps that have a bearing on what is in hand.
_OF_HAND = ("again", "note", "raiseof")

# A list that stands within itself would be looked through without an end; no program nests so deep.
_DEEPEST = 60


class Look:
    """What is known on the way through a program: the kinds, the bodies ahead, the rooms so far."""

    def __init__(self, kinds):
        self.known = kinds
        self.ahead = []
        self.rooms = []


def is_program(kinds, thing):
    """Whether this is a program by these kinds; asked of anything."""
    if not isinstance(thing, list):
        return False
    look = Look(kinds)
    for pair in thing:
        if not isinstance(pair, tuple) or len(pair) != 2:
            return False
        name, body = pair
        if not is_name(name) or name in look.ahead:
            return False
        if not _is_body(look, body, 1, False, True):
            return False
        # Only now, since a body doesn't stand ahead of itself.
        look.ahead.append(name)
    return True


def _is_body(look, thing, level, held, free):
    """Whether this is a body; held: within a catcher's body; free: where an answer may stand."""
    if not isinstance(thing, list) or level > _DEEPEST:
        return False
    for step in thing:
        if not _is_step(look, step, level, held, free):
            return False
    return True


def _is_step(look, step, level, held, free):
    if not isinstance(step, tuple) or not step or not is_text(step[0]):
        return False
    word = step[0]
    if len(step) != _PARTS.get(word):
        return False
    if word == "room":
        return _is_room(look, step, level, held, free)
    if word == "gather":
        return is_text(step[1]) and _are_gathered(look, step[2], level, held)
    if word == "answer":
        return free and is_whole(step[1])
    if word == "call":
        return step[1] in look.ahead
    if word in _OF_HAND and not held:
        return False
    if word in ("raise", "raiseof"):
        return _is_plain_kind(look, step[1]) and is_text(step[2])
    return word == "again" or is_text(step[1])


def _is_plain_kind(look, thing):
    """Whether this is a kind of plain faults."""
    return look.known.is_kind(thing) and thing != "sheaf"


def _are_gathered(look, thing, level, held):
    """Whether this is a list of bodies that a gather may have."""
    if not isinstance(thing, list) or not thing:
        return False
    for body in thing:
        if not _is_body(look, body, level + 1, held, False):
            return False
    return True


def _is_room(look, step, level, held, free):
    _, name, body, way, catchers, otherwise, leaving = step
    if not is_name(name) or name in look.rooms:
        return False
    look.rooms.append(name)
    if way not in ("whole", "out"):
        return False
    for inner in (body, otherwise, leaving):
        if not _is_body(look, inner, level + 1, held, free):
            return False
    return _are_catchers(look, catchers, level, free and way == "whole")


def _are_catchers(look, thing, level, free):
    """Whether this is a list of catchers; free: where an answer may stand in them."""
    if not isinstance(thing, list):
        return False
    for catcher in thing:
        if not isinstance(catcher, tuple) or len(catcher) != 2:
            return False
        test, body = catcher
        if not is_test(look.known, test) or not _is_body(look, body, level + 1, True, free):
            return False
    return True


def copied(body):
    """A body just like this one, that shares no list with it."""
    return [_copied_step(step) for step in body]


def _copied_step(step):
    if step[0] == "gather":
        word, text, bodies = step
        return (word, text, [copied(body) for body in bodies])
    if step[0] == "room":
        word, name, body, way, catchers, otherwise, leaving = step
        caught = [(test, copied(inner)) for test, inner in catchers]
        return (word, name, copied(body), way, caught, copied(otherwise), copied(leaving))
    return step
