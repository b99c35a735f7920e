"""Programs that are drawn by dice, small enough for what is promised."""

from ledgers import PAIRS
from oracle import Fault, Oracle
from parting import Dice

KINDS = ["fault", "io", "disk", "net", "math", "zero"]
TEXTS = ["a", "b", ""]
NOTES = ["x", "y"]


class Drawing:
    """A program on its way: what is drawn of it knows how many steps, catchers and rooms there are so far.

    Where it is strict, nothing that is in hand rises from a gather's body or from a leaving, so that each leaf is on
    its way once at a time."""

    def __init__(self, seed, words, strict=False):
        self.dice = Dice(seed)
        self.words = words
        self.strict = strict
        self.steps = 0
        self.catchers = 0
        self.names = []
        self.bodies = []

    def program(self):
        for name in ["first", "second", "main"][self.dice.below(3):]:
            body = self.body(1, False, True)
            self.bodies.append((name, body))
        return self.bodies

    def body(self, level, held, free, least=0):
        if level > 6:
            return [("say", "deep")]
        many = max(least, self.dice.below(4) if level > 1 else 4)
        return [self.step(level, held, free) for _ in range(many) if self.steps < 100]

    def step(self, level, held, free):
        self.steps += 1
        # A fault that rises in a program's own body ends the run, so most that rises does so in rooms.
        word = self.dice.one_of(["room", "room", "room", "say", "call", "gather"] if level == 1 else self.words)
        if word in ("again", "note", "raiseof") and not held:
            word = "raise"
        if word == "answer" and not free or word == "call" and not self.bodies:
            word = "room"
        return getattr(self, "draw_" + word)(level, held, free)

    def rising(self, level, held, free):
        if level < 6 and self.dice.below(3):
            return self.draw_gather(level, held, free)
        return self.draw_again(level, held, free) if held and self.dice.below(2) else self.draw_raise(level, held, free)

    def draw_say(self, level, held, free):
        return ("say", self.dice.one_of(TEXTS))

    def draw_raise(self, level, held, free):
        return ("raise", self.dice.one_of(KINDS), self.dice.one_of(TEXTS))

    def draw_raiseof(self, level, held, free):
        return ("raiseof", self.dice.one_of(KINDS), self.dice.one_of(TEXTS))

    def draw_again(self, level, held, free):
        return ("again",)

    def draw_note(self, level, held, free):
        return ("note", self.dice.one_of(NOTES))

    def draw_answer(self, level, held, free):
        return ("answer", self.dice.below(5) - 2)

    def draw_call(self, level, held, free):
        return ("call", self.dice.one_of([name for name, _ in self.bodies]))

    def draw_gather(self, level, held, free):
        held = held and not self.strict
        bodies = [self.body(level + 1, held, False, 1) for _ in range(1 + self.dice.below(4))]
        return ("gather", self.dice.one_of(TEXTS), bodies)

    def draw_room(self, level, held, free):
        name = "r" + "abcdefghijklmnopqrstuvwxyz"[len(self.names) % 26] + "abcdefghijklmnopqrstuvwxyz"[len(self.names) // 26]
        self.names.append(name)
        way = self.dice.one_of(["whole", "out", "out"])
        body = self.body(level + 1, held, free, 1)
        if self.dice.below(4):
            # Most often something rises at the last, or catchers had little to do.
            body = body[:1] + [self.rising(level + 1, held, free)]
        catchers = []
        for _ in range(1 + self.dice.below(4)):
            if self.catchers < 50:
                self.catchers += 1
                catchers.append((self.test(2), self.body(level + 1, True, free and way == "whole")))
        otherwise = self.body(level + 1, held, free) if self.dice.below(3) == 0 else []
        held = held and not self.strict
        leaving = self.body(level + 1, held, free) if self.dice.below(2) == 0 else []
        return ("room", name, body, way, catchers, otherwise, leaving)

    def test(self, levels):
        sort = self.dice.below(9 if levels else 6)
        if sort < 3:
            return ("kind", self.dice.one_of(KINDS + ["sheaf", "fault", "io", "io"]))
        if sort < 6:
            return ("says", self.dice.one_of(TEXTS)) if sort < 5 else ("noted", self.dice.one_of(NOTES))
        if sort == 6:
            return ("not", self.test(levels - 1))
        return (["and", "or"][sort - 7], self.test(levels - 1), self.test(levels - 1))


ALL_WORDS = [
    "say", "raise", "raise", "raiseof", "again", "again", "note", "answer", "call", "gather", "gather", "room", "room", "room",
]


def depth(fault):
    return 1 + max(map(depth, fault.members)) if fault.members else 0


def is_small(oracle):
    """Whether all that came up in these runs is within what is promised."""
    faults = [event[-1] for event in oracle.events if isinstance(event[-1], Fault)]
    return len(oracle.events) < 900 and all(len(fault.leaves()) <= 100 and depth(fault) <= 12 for fault in faults)


def drawn(seed, strict=False):
    """A program by this seed, and an oracle that ran its bodies, the last one twice; None where it gets too large."""
    program = Drawing(seed, ALL_WORDS, strict).program()
    oracle = Oracle(PAIRS, program)
    for name in names_of(program):
        oracle.run(name)
    return (program, oracle) if is_small(oracle) else None


def names_of(program):
    """The bodies that are run, in order."""
    return [name for name, _ in program] + [program[-1][0]]
