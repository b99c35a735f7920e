"""What the tests of houses need: runs of a program, told with letters instead of numbers, in order of first appearance."""

import unittest

from faultsheaves.house import House

from ledgers import some_kinds

LETTERS = "abcdefghijklmnopqrstuvwxyz"
WENT = ("went",)
ALWAYS = ("kind", "fault")
NEVER = ("says", "nowhere")


def rose(letter):
    """The outcome."""
    return ("rose", letter)


def room(name, body, way="whole", catchers=(), otherwise=(), leaving=()):
    """A step that is a room; whatever is left out is empty."""
    return ("room", name, body, way, list(catchers), list(otherwise), list(leaving))


def entered(name, *events):
    """The events of a room: what happens, then a leaving without steps, and the outcome that is told last."""
    return [("enter", name), *events[:-1], ("leaving", name), ("leave", name, events[-1])]


def ran(name, *events):
    """The events of a run: what happens, and the outcome that is told last."""
    return [("run", name), *events[:-1], ("end", events[-1])]


def number_of(event):
    """The number of the fault of which an event tells, or None."""
    if event[0] in ("rise", "again", "take", "come", "off"):
        return event[-1]
    if event[0] in ("leave", "end") and event[-1][0] == "rose":
        return event[-1][1]
    return None


def with_letter(event, letter):
    """The same event of this letter instead of a number."""
    last = ("rose", letter) if event[0] in ("leave", "end") else letter
    return event[:-1] + (last,)


class Seen:
    """What a house told: events with letters, and its ledger, asked by letters."""

    def __init__(self, house):
        self.house = house
        self.ledger = house.ledger()
        self.letters = {}
        self.events = []
        for event in house.events():
            number = number_of(event)
            if number is not None:
                letter = self.letters.setdefault(number, LETTERS[len(self.letters)])
                event = with_letter(event, letter)
            self.events.append(event)
        self.numbers = {letter: number for number, letter in self.letters.items()}

    def shape(self, number):
        """The letter of a plain fault; for a sheaf its text and the shapes of its members."""
        members = self.ledger.members(number)
        if not members:
            return self.letters[number]
        return [self.ledger.text(number)] + [self.shape(member) for member in members]

    def of(self, letter):
        """Kind, text, notes, cause and what was at work, of the fault of this letter."""
        k = self.numbers[letter]
        ledger = self.ledger
        return (
            ledger.kind(k), ledger.text(k), ledger.notes(k), self.letters.get(ledger.cause(k)),
            self.letters.get(ledger.at_work(k)),
        )


class HouseCase(unittest.TestCase):
    """Houses of the kinds PAIRS."""

    def seen(self, program, *names):
        """What is told of a house in which these bodies were run; each outcome is the one that its run told."""
        house = House(some_kinds(), program)
        outcomes = [house.run(name) for name in names or ["main"]]
        self.assertEqual([event[1] for event in house.events() if event[0] == "end"], outcomes)
        return Seen(house)

    def main(self, body, *wanted):
        """What is told of one run of this body; these are the events between its beginning and its end, and the outcome."""
        seen = self.seen([("main", body)])
        self.assertEqual(seen.events, ran("main", *wanted))
        return seen

    def shapes(self, seen, **wanted):
        """These faults are, by their letters, of these shapes."""
        for letter, shape in wanted.items():
            with self.subTest(letter=letter):
                self.assertEqual(seen.shape(seen.numbers[letter]), shape)

    def are(self, seen, **wanted):
        """These faults are, by their letters, of this kind and text, with these notes, of this cause, while this."""
        for letter, told in wanted.items():
            with self.subTest(letter=letter):
                kind, text, notes, cause, at_work = seen.of(letter)
                self.assertEqual((kind, text, notes, cause, at_work), told)
