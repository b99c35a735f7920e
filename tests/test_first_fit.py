"""Whole catchers: the first test that a fault fits as it is."""

import unittest

from faultsheaves.catchers import first_fit
from faultsheaves.fitting import fits

from ledgers import empty_ledger, some_ledger, told
from parting import SOME_TESTS, Dice, grown_ledger

NEVER = ("says", "nowhere")
ALWAYS = ("kind", "fault")


class TestFirstFit(unittest.TestCase):
    def check(self, ledger, k, tests, wanted):
        """Told so, nothing is changed or made, and the list stays."""
        before = told(ledger)
        given = list(tests)
        with self.subTest(k=k, tests=tests):
            found = first_fit(ledger, k, given)
            self.assertEqual(found, wanted)
            self.assertIn(found.__class__, [int, None.__class__])
            self.assertEqual(given, tests)
            self.assertEqual(told(ledger), before)

    def test_no_tests(self):
        ledger = some_ledger()
        for k in range(9):
            self.check(ledger, k, [], None)

    def test_none_fits(self):
        ledger = some_ledger()
        for k in range(9):
            self.check(ledger, k, [NEVER], None)
            self.check(ledger, k, [NEVER, ("not", ALWAYS), NEVER], None)

    def test_one_fits(self):
        ledger = some_ledger()
        for k in range(9):
            for at in range(4):
                self.check(ledger, k, [NEVER] * at + [ALWAYS] + [NEVER] * (3 - at), at)

    def test_the_first_of_several(self):
        ledger = some_ledger()
        for k in range(9):
            self.check(ledger, k, [ALWAYS, ALWAYS], 0)
            self.check(ledger, k, [NEVER, ALWAYS, NEVER, ALWAYS, ALWAYS], 1)
            self.check(ledger, k, [NEVER, NEVER, ALWAYS, ALWAYS], 2)

    def test_kinds(self):
        ledger = some_ledger()
        tests = [("kind", "zero"), ("kind", "disk"), ("kind", "io"), ("kind", "sheaf"), ("kind", "fault")]
        for k, wanted in enumerate([1, 2, 4, 3, 3, 0, 3, 3, 2]):
            self.check(ledger, k, tests, wanted)
        self.check(ledger, 0, [("kind", "io"), ("kind", "disk")], 0)
        self.check(ledger, 8, [("kind", "disk"), ("kind", "net")], None)

    def test_texts(self):
        ledger = some_ledger()
        tests = [("says", "full"), ("says", ""), ("says", "two"), ("says", "gone")]
        for k, wanted in enumerate([0, 3, 1, 2, None, None, 1, None, 0]):
            self.check(ledger, k, tests, wanted)

    def test_notes(self):
        ledger = some_ledger()
        tests = [("noted", "a"), ("noted", "first"), ("noted", "b")]
        for k, wanted in enumerate([1, None, None, 0, None, None, None, None, None]):
            self.check(ledger, k, tests, wanted)
        ledger.note(7, "b")
        self.check(ledger, 7, tests, 2)

    def test_a_sheaf_by_what_it_is_itself(self):
        ledger = some_ledger()
        for test in [("kind", "io"), ("kind", "disk"), ("kind", "net"), ("kind", "zero"), ("says", "full"),
                     ("says", "gone"), ("noted", "first")]:
            for k in [3, 4, 7]:
                self.check(ledger, k, [test], None)
                self.check(ledger, k, [("not", test)], 0)
        self.check(ledger, 3, [("says", "full"), ("and", ("kind", "sheaf"), ("noted", "b"))], 1)
        self.check(ledger, 3, [("kind", "io"), ("says", "two")], 1)
        self.check(ledger, 6, [("kind", "zero"), ("says", "")], 1)

    def test_nested_tests(self):
        ledger = some_ledger()
        tests = [("and", ("kind", "io"), ("not", ("kind", "disk"))), ("or", ("says", ""), ("noted", "b"))]
        for k, wanted in enumerate([None, 0, 1, 1, None, None, 1, None, 0]):
            self.check(ledger, k, tests, wanted)

    def test_as_fits_tells(self):
        for seed in range(20):
            ledger = grown_ledger(seed)
            dice = Dice(seed)
            for k in range(17):
                tests = [dice.one_of(SOME_TESTS) for _ in range(dice.below(6))]
                fitting = [at for at, test in enumerate(tests) if fits(ledger, k, test)]
                self.check(ledger, k, tests, fitting[0] if fitting else None)

    def test_by_what_it_has_then(self):
        ledger = empty_ledger()
        ledger.plain("io", "a")
        tests = [("noted", "x"), ("noted", "y")]
        self.check(ledger, 0, tests, None)
        ledger.note(0, "y")
        self.check(ledger, 0, tests, 1)
        ledger.note(0, "x")
        self.check(ledger, 0, tests, 0)
        for _ in range(3):
            self.check(ledger, 0, tests, 0)

    def test_the_list_is_the_askers(self):
        ledger = some_ledger()
        tests = [NEVER, ALWAYS]
        self.assertEqual(first_fit(ledger, 0, tests), 1)
        tests[0] = ALWAYS
        self.assertEqual(first_fit(ledger, 0, tests), 0)
        tests.clear()
        self.assertIsNone(first_fit(ledger, 0, tests))


if __name__ == "__main__":
    unittest.main()
