"""How large things get with faults shown, programs and catchers, and that it is answered in a moment."""

import time
import unittest

from faultsheaves.catchers import come_out, first_fit, taken_out
from faultsheaves.kinds import Kinds
from faultsheaves.ledger import Ledger
from faultsheaves.programs import is_program
from faultsheaves.shown import shown

from catching import check_taken, wanted_out
from ledgers import empty_ledger, some_kinds
from parting import check_part
from some_programs import PLACES, put

# Far more than a moment, so that a slow machine doesn't fail what a slow program does.
SECONDS = 20


def hundred():
    """A ledger of a hundred plain faults, each third one of the kind net, and a sheaf of all."""
    ledger = empty_ledger()
    for k in range(100):
        ledger.plain("net" if k % 3 == 0 else "disk", f"text {k}")
    return ledger, ledger.sheaf("flat", list(range(100)))


def deep():
    """Twelve sheaves within one another, each with seven plain faults around the one within: 85 leaves."""
    ledger = empty_ledger()
    for k in range(9):
        ledger.plain(["net", "disk", "zero"][k % 3], f"text {k}")
    inner = 8
    for level in range(12):
        members = [(level + at) % 8 for at in range(7)]
        inner = ledger.sheaf(f"level {level}", members[:level % 8] + [inner] + members[level % 8:])
        ledger.note(inner, f"note {level}")
    return ledger, inner


def forty(text):
    """A test of nearly forty tuples, eight levels deep, which faults of this text alone fit."""
    tests = [("says", text)] + [("noted", "none")] * 18
    word = "or"
    while len(tests) > 1:
        tests = [(word,) + tuple(tests[at:at + 2]) if at + 1 < len(tests) else tests[at] for at in range(0, len(tests), 2)]
    return ("not", ("not", tests[0]))


class TestSizes(unittest.TestCase):
    def setUp(self):
        self.began = time.process_time()

    def tearDown(self):
        self.assertLess(time.process_time() - self.began, SECONDS)

    def taken(self, ledger, k, tests):
        many = ledger.many()
        found = taken_out(ledger, k, tests)
        check_taken(self, ledger, many, k, tests, found)
        return found

    def out(self, ledger, k, taken, again, anew):
        many = ledger.many()
        wanted = wanted_out(ledger, k, taken, again, anew)
        check_part(self, ledger, many, wanted, come_out(ledger, k, taken, again, anew))

    def test_sixty_catchers_of_a_hundred_leaves(self):
        ledger, sheaf = hundred()
        tests = [("says", f"text {at * 2}") for at in range(60)]
        hands, left = self.taken(ledger, sheaf, tests)
        self.assertEqual([ledger.members(hand) for hand in hands[:50]], [[at * 2] for at in range(50)])
        self.assertEqual(hands[50:], [None] * 10)
        self.assertEqual(ledger.members(left), list(range(1, 100, 2)))
        self.out(ledger, sheaf, (hands, left), [at % 2 == 0 for at in range(60)], list(range(60)))
        self.out(ledger, sheaf, (hands, left), [True] * 60, [])
        self.out(ledger, sheaf, (hands, left), [False] * 60, [])

    def test_sixty_catchers_of_forty_tuples(self):
        ledger, sheaf = hundred()
        tests = [forty(f"text {at + 20}") for at in range(60)]
        hands, _ = self.taken(ledger, sheaf, tests)
        self.assertEqual([ledger.members(hand) for hand in hands], [[at + 20] for at in range(60)])
        self.assertEqual(first_fit(ledger, 79, tests), 59)
        self.assertIsNone(first_fit(ledger, 80, tests))
        self.assertIsNone(first_fit(ledger, sheaf, tests))

    def test_twelve_deep(self):
        ledger, top = deep()
        tests = [("says", f"text {at}") for at in range(9)]
        hands, left = self.taken(ledger, top, tests)
        self.assertIsNone(left)
        self.assertEqual(len(set(hands)), 9)
        for at in range(9):
            again = [other == at for other in range(9)]
            self.out(ledger, top, (hands, left), again, [])
            self.out(ledger, top, (hands, left), again, [at, top])
        self.assertEqual(come_out(ledger, top, (hands, left), [True] * 9, []), top)
        self.taken(ledger, top, [("kind", "net"), ("kind", "disk")])

    def test_one_leaf_a_hundred_times(self):
        ledger, _ = hundred()
        same = ledger.sheaf("same", [7] * 100)
        taken = self.taken(ledger, same, [("says", "text 8"), ("says", "text 7")])
        self.assertEqual(taken, ([None, same], None))
        self.assertEqual(come_out(ledger, same, taken, [False, True], []), same)
        self.out(ledger, same, taken, [False, True], [7] * 100)

    def test_thirty_kinds(self):
        names = ["abcdefghijklmnopqrstuvwxyz"[at % 26] * (1 + at // 26) for at in range(30)]
        ledger = Ledger(Kinds(list(zip(names, ["fault"] + names[:-1]))))
        for name in names:
            ledger.plain(name, "")
        sheaf = ledger.sheaf("", list(range(30)))
        tests = [("kind", name) for name in reversed(names)]
        hands, left = self.taken(ledger, sheaf, tests)
        self.assertEqual([ledger.members(hand) for hand in hands], [[k] for k in reversed(range(30))])
        self.assertIsNone(left)
        for k in range(30):
            self.assertEqual(first_fit(ledger, k, tests), 29 - k)
            self.assertEqual(shown(ledger, k), f"{k} {names[k]} ")

    def test_three_hundred_faults(self):
        ledger, _ = hundred()
        for k in range(101, 300):
            # Not the flat one, which has a hundred leaves by itself.
            ledger.sheaf(f"sheaf {k}", [k - 101 if k != 201 else 0, k * 7 % 100])
            ledger.blame(k, k - 1)
        for k in range(101, 300, 7):
            taken = self.taken(ledger, k, [("kind", "net"), ("says", "text 5")])
            self.out(ledger, k, taken, [True, False], [299])
        self.assertEqual(shown(ledger, 150).split("\n")[0], "150 sheaf sheaf 150 of 149")

    def test_shown_in_20000_signs(self):
        ledger = empty_ledger()
        for k in range(100):
            ledger.plain("disk", f"{k:040}")
            for note in range(3):
                ledger.note(k, "\"" * 20 + f"{note:020}")
        sheaf = ledger.sheaf("x" * 40, list(range(100)))
        lines = shown(ledger, sheaf).split("\n")
        self.assertEqual(lines[0], "100 sheaf " + "x" * 40)
        notes = "".join(" note \"" + "\\\"" * 20 + f"{note:020}\"" for note in range(3))
        self.assertEqual(lines[1:], [f"  {k} disk {k:040}" + notes for k in range(100)])
        self.assertGreater(sum(map(len, lines)), 20000)

    def test_shown_twelve_deep(self):
        ledger, top = deep()
        lines = shown(ledger, top).split("\n")
        self.assertEqual(len(lines), 85 + 12)
        self.assertEqual(max(len(line) - len(line.lstrip(" ")) for line in lines), 24)
        self.assertEqual(lines[0], f"{top} sheaf level 11 note \"note 11\"")

    def test_programs_of_ten_bodies_and_120_steps(self):
        program = []
        for at in range(10):
            inner = [("room", f"r{'abcdefghij'[at]}{'abcdef'[room]}", [("say", "x" * 40)], ["whole", "out"][room % 2],
                      [(("kind", "io"), [])], [], []) for room in range(6)]
            calls = [("call", "abcdefghij"[to]) for to in range(at)][:1]
            program.append(("abcdefghij"[at], inner + calls))
        self.assertIs(is_program(some_kinds(), program), True)
        for at in range(10):
            program[at][1].append(("answer", 10 ** 60 - 1))
        self.assertIs(is_program(some_kinds(), program), True)
        program[9][1].append(("call", "j"))
        self.assertIs(is_program(some_kinds(), program), False)

    def test_programs_of_sixty_catchers(self):
        catchers = [(forty(f"text {at}"), [("note", "a")]) for at in range(60)]
        for way in ["whole", "out"]:
            self.assertIs(is_program(some_kinds(), [("a", [("room", "r", [], way, catchers, [], [])])]), True)
            wrong = catchers[:59] + [(forty(None), [])]
            self.assertIs(is_program(some_kinds(), [("a", [("room", "r", [], way, wrong, [], [])])]), False)

    def test_programs_of_eight_levels(self):
        for at, place in enumerate(PLACES):
            places = (PLACES[at:] + PLACES)[:7]
            self.assertIs(is_program(some_kinds(), put([("say", "deep")], places)), True)
            self.assertIs(is_program(some_kinds(), put([("say", None)], places)), False)
            self.assertIs(is_program(some_kinds(), put([place[0]([], "last")], places[1:])), True)

    def test_a_hundred_and_twenty_steps_in_one_body(self):
        for step in [("say", "x" * 40), ("raise", "net", ""), ("answer", -(10 ** 60 - 1)), ("gather", "", [[]])]:
            self.assertIs(is_program(some_kinds(), [("a", [step] * 120)]), True)
            self.assertIs(is_program(some_kinds(), [("a", [step] * 119 + [()])]), False)


if __name__ == "__main__":
    unittest.main()
