"""What `shown` and the functions of catchers refuse, by which class, which goes first, and that it changes nothing."""

import unittest

from faultsheaves.catchers import come_out, first_fit, taken_out
from faultsheaves.errors import NoFault, NoTest
from faultsheaves.kinds import Kinds
from faultsheaves.ledger import Ledger
from faultsheaves.shown import shown

from ledgers import empty_ledger, no_numbers, some_ledger, told
from no_tests import GOOD, NO_TESTS, within

BY_TESTS = [first_fit, taken_out]
ALWAYS = ("kind", "fault")


def ledgers():
    """Ledgers with many faults, with one, and without any."""
    one = empty_ledger()
    one.plain("io", "only")
    return [some_ledger(), one, empty_ledger()]


class Refusals(unittest.TestCase):
    def refused(self, error, function, ledger, *given):
        """Refused by just this class; the ledger stays as it was, and so do the lists that were handed in."""
        before = told(ledger)
        kept = [list(thing) if isinstance(thing, list) else thing for thing in given]
        with self.subTest(function=function.__name__, given=given):
            with self.assertRaises(ValueError) as caught:
                function(ledger, *given)
            self.assertIs(caught.exception.__class__, error)
            self.assertEqual(ledger.many(), len(before))
            self.assertEqual(told(ledger), before)
            self.assertEqual(list(given), kept)


class TestNumbers(Refusals):
    def test_shown(self):
        for ledger in ledgers():
            for k in no_numbers(ledger) + [None]:
                self.refused(NoFault, shown, ledger, k)

    def test_asked_by_tests(self):
        for ledger in ledgers():
            for k in no_numbers(ledger) + [None]:
                for tests in [[], [GOOD], [ALWAYS, GOOD]]:
                    for function in BY_TESTS:
                        self.refused(NoFault, function, ledger, k, tests)

    def test_come_out(self):
        for ledger in ledgers():
            for k in no_numbers(ledger) + [None]:
                for taken, again in [(([], None), []), (([None], None), [False]), (([None], None), [True])]:
                    self.refused(NoFault, come_out, ledger, k, taken, again, [])
                    self.refused(NoFault, come_out, ledger, k, taken, again, list(range(ledger.many())))

    def test_come_out_of_what_was_taken(self):
        ledger = some_ledger()
        for of in [0, 7]:
            taken = taken_out(ledger, of, [("kind", "disk")])
            for k in no_numbers(ledger) + [None]:
                for again in [[True], [False]]:
                    self.refused(NoFault, come_out, ledger, k, taken, again, [])
                    self.refused(NoFault, come_out, ledger, k, taken, again, [0, 1])

    def test_come_out_anew(self):
        ledger = some_ledger()
        for of in [0, 3, 7]:
            taken = taken_out(ledger, of, [("kind", "disk"), ("kind", "net")])
            for number in no_numbers(ledger) + [None]:
                for anew in [[number], [number, 8], [8, number], [8, number, 2], [0, 1, number], [number, number]]:
                    for again in [[False, False], [True, True], [True, False]]:
                        self.refused(NoFault, come_out, ledger, of, taken, again, anew)

    def test_numbers_of_another_ledger(self):
        ledger = some_ledger()
        twin = ledger.twin()
        twin.plain("io", "late")
        self.refused(NoFault, shown, ledger, 9)
        for function in BY_TESTS:
            self.refused(NoFault, function, ledger, 9, [GOOD])
        self.refused(NoFault, come_out, ledger, 9, ([], 0), [], [])
        self.refused(NoFault, come_out, ledger, 0, ([], 0), [], [9])
        self.assertEqual(shown(twin, 9), "9 io late")
        self.assertEqual(first_fit(twin, 9, [GOOD]), 0)
        self.assertEqual(come_out(twin, 9, ([], 9), [], []), 9)


class TestTests(Refusals):
    def test_no_tests(self):
        for ledger in ledgers()[:2]:
            for thing in NO_TESTS:
                for function in BY_TESTS:
                    self.refused(NoTest, function, ledger, 0, [thing])

    def test_at_any_place(self):
        ledger = some_ledger()
        for thing in NO_TESTS:
            for tests in [[thing, GOOD], [ALWAYS, thing], [GOOD, thing, ALWAYS], [ALWAYS, GOOD, GOOD, thing], [thing, thing]]:
                for k in [0, 7]:
                    for function in BY_TESTS:
                        self.refused(NoTest, function, ledger, k, tests)

    def test_within(self):
        ledger = some_ledger()
        for thing in NO_TESTS[::3]:
            for outer in within(thing):
                for function in BY_TESTS:
                    self.refused(NoTest, function, ledger, 3, [ALWAYS, outer])

    def test_by_the_kinds_of_the_ledger(self):
        ledger = Ledger(Kinds([("heat", "fault")]))
        ledger.plain("heat", "")
        ledger.sheaf("", [0])
        for function in BY_TESTS:
            for k in [0, 1]:
                self.refused(NoTest, function, ledger, k, [("kind", "heat"), GOOD])
                self.refused(NoTest, function, some_ledger(), k, [GOOD, ("kind", "heat")])
        self.assertEqual(taken_out(ledger, 1, [("kind", "heat")]), ([1], None))


class TestWhichGoesFirst(Refusals):
    def test_fault_then_tests(self):
        for ledger in ledgers():
            for k in no_numbers(ledger) + [None]:
                for thing in NO_TESTS[::7] + [("kind", "none"), None]:
                    for tests in [[thing], [GOOD, thing]]:
                        for function in BY_TESTS:
                            self.refused(NoFault, function, ledger, k, tests)

    def test_both_faults(self):
        for ledger in ledgers():
            for k in no_numbers(ledger)[::2] + [None]:
                for number in no_numbers(ledger)[::3] + [None]:
                    self.refused(NoFault, come_out, ledger, k, ([], None), [], [number])


class TestBehindRefusals(Refusals):
    def refuse_all(self, ledger):
        many = ledger.many()
        self.refused(NoFault, shown, ledger, many)
        for function in BY_TESTS:
            self.refused(NoFault, function, ledger, many, [GOOD])
            self.refused(NoTest, function, ledger, 7, [("kind", "net"), ("kind", "none")])
            self.refused(NoTest, function, ledger, 0, [ALWAYS, None])
        self.refused(NoFault, come_out, ledger, True, ([3], 0), [False], [8])
        self.refused(NoFault, come_out, ledger, 7, ([None, 3], 4), [True, False], [8, many])

    def test_good_calls_are_done_as_ever(self):
        ledger = some_ledger()
        other = some_ledger()
        calls = [
            (shown, 7), (first_fit, 7, [GOOD, ALWAYS]), (taken_out, 7, [("kind", "net"), GOOD]), (shown, 3),
            (come_out, 7, ([None], 7), [True], []), (come_out, 3, ([3], None), [False], [8, 2]),
            (taken_out, 0, [ALWAYS]), (first_fit, 0, []), (come_out, 0, ([None], 0), [False], [0]),
        ]
        for function, *given in calls:
            self.refuse_all(ledger)
            self.assertEqual(function(ledger, *given), function(other, *given))
            self.assertEqual(told(ledger), told(other))


if __name__ == "__main__":
    unittest.main()
