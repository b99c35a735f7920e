"""How large things get with tests, parts and rows, and that it is answered in a moment."""

import time
import unittest

from faultsheaves.causes import row
from faultsheaves.fitting import fits, is_test
from faultsheaves.kinds import Kinds
from faultsheaves.ledger import Ledger
from faultsheaves.parts import alike, part, placed, split

from ledgers import empty_ledger, some_kinds

# Far more than a moment, so that a slow machine doesn't fail what a slow program does.
SECONDS = 20


def hundred():
    """A ledger of a hundred plain faults, each third one of the kind net."""
    ledger = empty_ledger()
    for k in range(100):
        ledger.plain("net" if k % 3 == 0 else "disk", f"text {k}")
    return ledger


def deep():
    """Twelve sheaves within one another, each with seven plain faults around the one within: 85 leaves."""
    ledger = empty_ledger()
    ledger.plain("net", "")
    ledger.plain("disk", "")
    inner = ledger.plain("net", "inner")
    for level in range(12):
        inner = ledger.sheaf(f"level {level}", [0, 1, 0, inner, 1, 0, 1, 0][level % 2:] + [1] * (level % 2))
        ledger.note(inner, f"note {level}")
    return ledger


def forty(word):
    """A test of forty tuples, which `text 7` alone fits."""
    tests = [("says", "text 7")] + [("says", "text none")] * 19
    while len(tests) > 1:
        tests = [("or",) + tuple(tests[at:at + 2]) if at + 1 < len(tests) else tests[at]
                 for at in range(0, len(tests), 2)]
    return tests[0] if word == "or" else ("not", tests[0])


class TestSizes(unittest.TestCase):
    def setUp(self):
        self.began = time.process_time()

    def tearDown(self):
        self.assertLess(time.process_time() - self.began, SECONDS)

    def test_a_hundred_leaves_side_by_side(self):
        ledger = hundred()
        sheaf = ledger.sheaf("flat", list(range(100)))
        fit, left = split(ledger, sheaf, ("kind", "net"))
        self.assertEqual(ledger.members(fit), [k for k in range(100) if k % 3 == 0])
        self.assertEqual(ledger.members(left), [k for k in range(100) if k % 3])
        wanted = [((k,), 0, (k // 3,)) if k % 3 == 0 else ((k,), 1, (k - k // 3 - 1,)) for k in range(100)]
        self.assertEqual(placed(ledger, sheaf, ("kind", "net")), wanted)
        self.assertEqual(part(ledger, sheaf, [(k,) for k in reversed(range(100))]), sheaf)
        odd = part(ledger, sheaf, [(k,) for k in reversed(range(100)) if k % 2])
        self.assertEqual(ledger.members(odd), list(range(1, 100, 2)))
        self.assertIs(alike(ledger, sheaf, ledger.like(sheaf, list(range(100)))), True)
        self.assertIs(alike(ledger, sheaf, ledger.like(sheaf, list(range(99)) + [0])), False)

    def test_a_hundred_leaves_in_tens(self):
        ledger = hundred()
        tens = [ledger.sheaf(f"ten {at}", list(range(at * 10, at * 10 + 10))) for at in range(10)]
        sheaf = ledger.sheaf("tens", tens)
        fit, left = split(ledger, sheaf, ("kind", "net"))
        self.assertEqual([j for _, j in ledger.leaves(fit)], [k for k in range(100) if k % 3 == 0])
        self.assertEqual([j for _, j in ledger.leaves(left)], [k for k in range(100) if k % 3])
        self.assertEqual(len(ledger.members(fit)), 10)
        one, rest = split(ledger, sheaf, ("says", "text 57"))
        self.assertEqual(ledger.leaves(one), [((0, 0), 57)])
        self.assertEqual([k for k in ledger.members(rest) if k in tens], tens[:5] + tens[6:])

    def test_one_leaf_a_hundred_times(self):
        ledger = hundred()
        sheaf = ledger.sheaf("same", [7] * 100)
        self.assertEqual(split(ledger, sheaf, ("says", "text 7")), (sheaf, None))
        half = part(ledger, sheaf, [(k,) for k in range(0, 100, 2)])
        self.assertEqual(ledger.members(half), [7] * 50)

    def test_sheaves_twelve_deep(self):
        ledger = deep()
        top = ledger.many() - 1
        self.assertEqual(len(ledger.leaves(top)), 85)
        fit, left = split(ledger, top, ("says", "inner"))
        self.assertEqual([j for _, j in ledger.leaves(fit)], [2])
        self.assertEqual(ledger.leaves(fit)[0][0], (0,) * 12)
        texts = [ledger.text(ledger.led(fit, (0,) * level)) for level in range(12)]
        self.assertEqual(texts, [f"level {level}" for level in reversed(range(12))])
        notes = [ledger.notes(ledger.led(fit, (0,) * level)) for level in range(12)]
        self.assertEqual(notes, [[f"note {level}"] for level in reversed(range(12))])
        self.assertEqual(len(ledger.leaves(left)), len(ledger.leaves(top)) - 1)
        for way, side, there in placed(ledger, top, ("says", "inner")):
            self.assertEqual(ledger.led([fit, left][side], there), ledger.led(top, way))

    def test_sheaves_of_one_twelve_deep(self):
        ledger = empty_ledger()
        inner = ledger.plain("io", "")
        for _ in range(12):
            inner = ledger.sheaf("", [inner])
        for test, wanted in [(("kind", "io"), (inner, None)), (("kind", "net"), (None, inner))]:
            self.assertEqual(split(ledger, inner, test), wanted)
        self.assertEqual(part(ledger, inner, [(0,) * 12]), inner)
        other = empty = ledger.members(inner)[0]
        while ledger.members(empty):
            empty = ledger.members(empty)[0]
        for _ in range(12):
            empty = ledger.sheaf("", [empty])
        self.assertIs(alike(ledger, inner, empty), True)
        self.assertIs(alike(ledger, other, empty), False)

    def test_two_tests_one_behind_the_other_twelve_deep(self):
        ledger = deep()
        top = ledger.many() - 1
        first, second = ("kind", "net"), ("says", "")
        ahead = [split(ledger, number, second) for number in split(ledger, top, first)]
        behind = [split(ledger, number, first) for number in split(ledger, top, second) if number is not None]
        self.assertIs(alike(ledger, ahead[0][0], behind[0][0]), True)
        self.assertIs(alike(ledger, ahead[0][1], behind[1][0]), True)
        self.assertIs(alike(ledger, ahead[1][0], behind[0][1]), True)
        self.assertEqual((ahead[1][1], behind[1][1]), (None, None))

    def test_tests_of_forty_tuples(self):
        ledger = hundred()
        sheaf = ledger.sheaf("flat", list(range(100)))
        for word, wanted in [("or", [7]), ("not", [k for k in range(100) if k != 7])]:
            self.assertIs(is_test(some_kinds(), forty(word)), True)
            self.assertIs(fits(ledger, 7, forty(word)), word == "or")
            self.assertIs(fits(ledger, 8, forty(word)), word == "not")
            fit, _ = split(ledger, sheaf, forty(word))
            self.assertEqual(ledger.members(fit), wanted)
            self.assertEqual(sum(side == 0 for _, side, _ in placed(ledger, sheaf, forty(word))), len(wanted))

    def test_tests_of_eight_levels(self):
        ledger = hundred()
        sheaf = ledger.sheaf("flat", list(range(100)))
        for inner in [("kind", "net"), ("says", "text 9"), ("not", ("says", "text 9"))]:
            test = inner
            for word in ["and", "or", "and", "or", "and", "or"]:
                test = (word, test, ("kind", "fault") if word == "and" else ("noted", "none"))
            self.assertIs(is_test(some_kinds(), test), True)
            wanted = [k for k in range(100) if fits(ledger, k, inner)]
            self.assertEqual(ledger.members(split(ledger, sheaf, test)[0]), wanted)

    def test_texts_of_tests_of_3000_signs(self):
        ledger = hundred()
        sheaf = ledger.sheaf("x" * 40, list(range(100)))
        for text in ["x" * 3000, "\"" * 3000, "text 7" + " " * 2994]:
            for word in ["says", "noted"]:
                self.assertIs(is_test(some_kinds(), (word, text)), True)
                self.assertIs(fits(ledger, sheaf, (word, text)), False)
                self.assertEqual(split(ledger, sheaf, (word, text)), (None, sheaf))
                self.assertEqual(split(ledger, sheaf, ("not", (word, text))), (sheaf, None))

    def test_thirty_kinds(self):
        names = ["abcdefghijklmnopqrstuvwxyz"[at % 26] * (1 + at // 26) for at in range(30)]
        kinds = Kinds(list(zip(names, ["fault"] + names[:-1])))
        ledger = Ledger(kinds)
        for name in names:
            ledger.plain(name, "")
        sheaf = ledger.sheaf("", list(range(30)))
        for at, name in enumerate(names):
            self.assertIs(is_test(kinds, ("kind", name)), True)
            for k in range(30):
                self.assertIs(fits(ledger, k, ("kind", name)), k >= at)
            fit, left = split(ledger, sheaf, ("kind", name))
            self.assertEqual(ledger.members(fit), list(range(at, 30)))
            self.assertEqual([] if left is None else ledger.members(left), list(range(at)))

    def test_three_hundred_faults(self):
        ledger = hundred()
        for k in range(100, 300):
            ledger.sheaf(f"sheaf {k}", [k - 100, k % 100] if k < 200 else [k - 100, k - 200])
            ledger.blame(k, k - 1)
        for k in range(100, 300):
            fit, left = split(ledger, k, ("kind", "net"))
            leaves = [j for _, j in ledger.leaves(k)]
            for number, wanted in [(fit, [j for j in leaves if j % 3 == 0]), (left, [j for j in leaves if j % 3])]:
                self.assertEqual([] if number is None else [j for _, j in ledger.leaves(number)], wanted)
        self.assertEqual(row(ledger, 299), list(range(299, 98, -1)))
        self.assertIs(fits(ledger, 299, ("says", "sheaf 299")), True)
        self.assertEqual([k for k in range(300) if alike(ledger, 299, k)], [299])


if __name__ == "__main__":
    unittest.main()
