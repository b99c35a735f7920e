"""Runs by the words of the document, with faults that are objects instead of numbers; and whether a house did the same."""


class Fault:
    """A fault; a plain one has no members."""

    def __init__(self, kind, text, members=()):
        self.kind, self.text, self.members = kind, text, list(members)
        self.notes, self.cause, self.at_work = [], None, None

    def leaves(self):
        if not self.members:
            return [self]
        return [leaf for member in self.members for leaf in member.leaves()]

    def like(self, members):
        new = Fault("sheaf", self.text, members)
        new.notes, new.cause, new.at_work = list(self.notes), self.cause, self.at_work
        return new

    def part(self, chosen):
        """Its part at those leaves of which chosen, asked with the leaf, is true, or None."""
        truths = [bool(chosen(leaf)) for leaf in self.leaves()]
        if all(truths):
            return self
        if not any(truths):
            return None
        parts = [member.part(chosen) for member in self.members]
        return self.like([part for part in parts if part is not None])


class Oracle:
    """What a house is to tell: events and outcomes in which faults are objects."""

    def __init__(self, pairs, program):
        self.above = {"fault": None, "sheaf": "fault", **dict(pairs)}
        self.bodies = dict(program)
        self.events = []
        self.working = []

    def run(self, name):
        self.events.append(("run", name))
        outcome = self.body(self.bodies[name], None)
        self.events.append(("end", outcome))
        return outcome

    def fits(self, fault, test):
        word = test[0]
        if word == "kind":
            kind = fault.kind
            while kind is not None and kind != test[1]:
                kind = self.above[kind]
            return kind is not None
        if word in ("says", "noted"):
            return test[1] == fault.text if word == "says" else test[1] in fault.notes
        truths = [self.fits(fault, inner) for inner in test[1:]]
        return not truths[0] if word == "not" else all(truths) if word == "and" else any(truths)

    def body(self, steps, held):
        for step in steps:
            outcome = getattr(self, "do_" + step[0])(held, *step[1:])
            if outcome != ("went",):
                return outcome
        return ("went",)

    def rises(self, fault, word):
        if self.working and self.working[-1] is not fault:
            along = self.working[-1]
            while along is not None:
                following = along.at_work
                if following is fault:
                    along.at_work = None
                along = following
            fault.at_work = self.working[-1]
        self.events.append((word, fault))
        return ("rose", fault)

    def do_say(self, held, text):
        self.events.append(("say", text))
        return ("went",)

    def do_raise(self, held, kind, text):
        return self.rises(Fault(kind, text), "rise")

    def do_raiseof(self, held, kind, text):
        fault = Fault(kind, text)
        fault.cause = held[0]
        return self.rises(fault, "rise")

    def do_again(self, held):
        return self.rises(held[0], "again")

    def do_note(self, held, text):
        fault, way = held
        noted = [fault] if way == "whole" else fault.leaves()
        for at, one in enumerate(noted):
            if not any(one is other for other in noted[:at]):
                one.notes.append(text)
        return ("went",)

    def do_answer(self, held, n):
        return ("answer", n)

    def do_call(self, held, name):
        outcome = self.body(self.bodies[name], None)
        return outcome if outcome[0] == "rose" else ("went",)

    def do_gather(self, held, text, bodies):
        outcomes = [self.body(body, held) for body in bodies]
        rose = [outcome[1] for outcome in outcomes if outcome[0] == "rose"]
        return self.rises(Fault("sheaf", text, rose), "rise") if rose else ("went",)

    def do_room(self, held, name, body, way, catchers, otherwise, leaving):
        self.events.append(("enter", name))
        outcome = self.body(body, held)
        if outcome == ("went",):
            outcome = self.body(otherwise, held)
        elif outcome[0] == "rose":
            outcome = (self.whole if way == "whole" else self.out)(name, catchers, outcome[1])
        outcome = self.leave(name, leaving, held, outcome)
        self.events.append(("leave", name, outcome))
        return outcome

    def take(self, name, catcher, body, fault, way):
        self.events.append(("take", name, catcher, fault))
        self.working.append(fault)
        outcome = self.body(body, (fault, way))
        self.working.pop()
        return outcome

    def whole(self, name, catchers, fault):
        for at, (test, body) in enumerate(catchers):
            if self.fits(fault, test):
                return self.take(name, at, body, fault, "whole")
        return ("rose", fault)

    def out(self, name, catchers, fault):
        hands = []
        left = fault
        for test, _ in catchers:
            hand = None if left is None else left.part(lambda leaf, test=test: self.fits(leaf, test))
            left = None if left is None else left.part(lambda leaf, test=test: not self.fits(leaf, test))
            hands.append(Fault("sheaf", "", [fault]) if hand is fault and not fault.members else hand)
        if all(hand is None for hand in hands):
            return ("rose", fault)
        back = [] if left is None else left.leaves()
        anew = []
        for at, hand in enumerate(hands):
            outcome = ("went",) if hand is None else self.take(name, at, catchers[at][1], hand, "out")
            if outcome[0] == "rose" and outcome[1] is hand:
                back = back + hand.leaves()
            elif outcome[0] == "rose":
                anew.append(outcome[1])
        part = fault.part(lambda leaf: any(leaf is other for other in back))
        out = Fault("sheaf", "", anew + ([] if part is None else [part])) if anew else part
        if out is None:
            return ("went",)
        self.events.append(("come", name, out))
        return ("rose", out)

    def leave(self, name, leaving, held, outcome):
        self.events.append(("leaving", name))
        on_way = [outcome[1]] if outcome[0] == "rose" else []
        self.working += on_way
        behind = self.body(leaving, held)
        del self.working[len(self.working) - len(on_way):]
        if behind == ("went",):
            return outcome
        if on_way and not (behind[0] == "rose" and behind[1] is on_way[0]):
            self.events.append(("off", name, on_way[0]))
        return behind


class Match:
    """Which number of a house's ledger stands for which object, as events tell it, and that all else is the same."""

    def __init__(self, case, house, oracle):
        self.case, self.ledger = case, house.ledger()
        self.numbers, self.pairs = {}, []
        events = house.events()
        case.assertEqual([event[0] for event in events], [event[0] for event in oracle.events])
        for event, wanted in zip(events, oracle.events):
            self.same(event, wanted)
        for number, fault in self.pairs:
            self.same_fault(number, fault)

    def number(self, fault):
        return None if fault is None else self.numbers[id(fault)]

    def same(self, thing, wanted):
        if isinstance(wanted, Fault):
            self.pair(thing, wanted)
        elif isinstance(wanted, tuple):
            self.case.assertIs(thing.__class__, tuple)
            self.case.assertEqual(len(thing), len(wanted))
            for one, other in zip(thing, wanted):
                self.same(one, other)
        else:
            self.case.assertEqual(thing, wanted)
            self.case.assertIs(thing.__class__, wanted.__class__)

    def pair(self, number, fault):
        self.case.assertIs(number.__class__, int)
        if id(fault) not in self.numbers:
            self.case.assertNotIn(number, [other for other, _ in self.pairs])
            self.numbers[id(fault)] = number
            self.pairs.append((number, fault))
        self.case.assertEqual(self.numbers[id(fault)], number)

    def same_fault(self, number, fault):
        ledger, equal = self.ledger, self.case.assertEqual
        if id(fault) in self.numbers:
            equal(number, self.numbers[id(fault)])
        equal((ledger.kind(number), ledger.text(number)), (fault.kind, fault.text))
        equal(ledger.notes(number), fault.notes)
        equal((ledger.cause(number), ledger.at_work(number)), (self.number(fault.cause), self.number(fault.at_work)))
        equal(len(ledger.members(number)), len(fault.members))
        for member, other in zip(ledger.members(number), fault.members):
            self.same_fault(member, other)
