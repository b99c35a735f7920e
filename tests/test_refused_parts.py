"""What the functions on tests, parts and rows refuse, by which class, which goes first, and that it changes nothing."""

import unittest

from faultsheaves.causes import row
from faultsheaves.errors import NoFault, NoTest, NoWay
from faultsheaves.fitting import fits
from faultsheaves.kinds import Kinds
from faultsheaves.ledger import Ledger
from faultsheaves.parts import alike, part, placed, split

from ledgers import empty_ledger, no_numbers, some_ledger, told
from no_tests import GOOD, NO_TESTS, within

BY_TEST = [fits, split, placed]

# Things of all sorts that are no tuple of places.
NO_TUPLES = [None, True, False, 0, 1, -1, "", "0", "()", [], [0], [1, 0], {}, {0: 0}, {0: True}]

# Ways that lead to no leaf of fault 7 of some_ledger: to sheaves, beyond leaves, or nowhere.
NO_LEAVES = [
    (), (0,), (1,), (3,), (1, 1), (0, 0, 0), (2, 0), (1, 1, 0, 0), (1, 1, 1, 1), (3, 0, 0), (3, 1, 0, 0),
    (4,), (5,), (100,), (10 ** 30,), (4, 0), (0, 1), (1, 3), (1, 1, 2), (3, 2), (2, 2), (1, 3, 0),
    (-1,), (-2,), (0, -1), (1, -1), (-1, 0), (1, 1, -1), (1, -2, 0), (3, -1), (-(10 ** 30),),
    (True, 0), (True, 2), (1, True, 0), (1, 1, True), (1, 1, False), (0, False), (False, 0), (3, True), (3, False),
    (None,), (1, None), (None, 0), ("0", 0), (0, "0"), ("2",), ("",), ([0], 0), ([],), ([], 0), ({}, 0), (0, {}),
    ((0, 0),), ((0,), 0), (0, ()), ((),), (1, (1, 0)), (1, [1], 0),
]
LEAVES = [(0, 0), (1, 0), (1, 1, 0), (1, 1, 1), (1, 2), (2,), (3, 0), (3, 1)]


def ledgers():
    """Ledgers with many faults, with one, and without any."""
    one = empty_ledger()
    one.plain("io", "only")
    return [some_ledger(), one, empty_ledger()]


class Refusals(unittest.TestCase):
    def refused(self, error, function, ledger, *given):
        """Refused by just this class, and the ledger stays as it was."""
        before = told(ledger)
        with self.subTest(function=function.__name__, given=given):
            with self.assertRaises(ValueError) as caught:
                function(ledger, *given)
            self.assertIs(caught.exception.__class__, error)
            self.assertEqual(ledger.many(), len(before))
            self.assertEqual(told(ledger), before)


class TestNumbers(Refusals):
    def test_asked_by_a_test(self):
        for ledger in ledgers():
            for k in no_numbers(ledger) + [None]:
                for function in BY_TEST:
                    self.refused(NoFault, function, ledger, k, GOOD)

    def test_part(self):
        for ledger in ledgers():
            for k in no_numbers(ledger) + [None]:
                for ways in [[], [()], [(0,)]]:
                    self.refused(NoFault, part, ledger, k, ways)

    def test_row(self):
        for ledger in ledgers():
            for k in no_numbers(ledger) + [None]:
                self.refused(NoFault, row, ledger, k)

    def test_alike(self):
        for ledger in ledgers():
            for k in no_numbers(ledger) + [None]:
                self.refused(NoFault, alike, ledger, k, k)
                for j in range(ledger.many()):
                    self.refused(NoFault, alike, ledger, k, j)
                    self.refused(NoFault, alike, ledger, j, k)

    def test_numbers_of_another_ledger(self):
        ledger = some_ledger()
        twin = ledger.twin()
        twin.plain("io", "")
        for function in BY_TEST:
            self.refused(NoFault, function, ledger, 9, GOOD)
        self.refused(NoFault, row, ledger, 9)
        self.refused(NoFault, alike, ledger, 9, 9)
        self.refused(NoFault, part, ledger, 9, [()])
        self.assertEqual(part(twin, 9, [()]), 9)


class TestTests(Refusals):
    def test_no_tests(self):
        for ledger in ledgers()[:2]:
            for thing in NO_TESTS:
                for function in BY_TEST:
                    self.refused(NoTest, function, ledger, 0, thing)

    def test_no_tests_for_sheaves(self):
        ledger = some_ledger()
        for thing in NO_TESTS[::3]:
            for function in BY_TEST:
                for k in [3, 7]:
                    self.refused(NoTest, function, ledger, k, thing)

    def test_no_tests_within(self):
        ledger = some_ledger()
        for thing in NO_TESTS[::5]:
            for outer in within(thing):
                for function in BY_TEST:
                    self.refused(NoTest, function, ledger, 3, outer)

    def test_also_where_the_other_side_decides(self):
        ledger = some_ledger()
        for test in [("or", ("kind", "fault"), ("kind", "none")), ("and", ("kind", "sheaf"), ("says", None))]:
            for k in [0, 3]:
                for function in BY_TEST:
                    self.refused(NoTest, function, ledger, k, test)
                    self.refused(NoTest, function, ledger, k, ("not", test))

    def test_by_the_kinds_of_the_ledger(self):
        ledger = Ledger(Kinds([("heat", "fault")]))
        ledger.plain("heat", "")
        ledger.sheaf("", [0])
        for function in BY_TEST:
            for k in [0, 1]:
                self.refused(NoTest, function, ledger, k, GOOD)
                self.refused(NoTest, function, some_ledger(), k, ("kind", "heat"))
        self.assertEqual(split(ledger, 1, ("kind", "heat")), (1, None))
        self.assertIs(fits(ledger, 0, ("kind", "heat")), True)


class TestWays(Refusals):
    def test_of_a_plain_fault(self):
        ledger = some_ledger()
        for k in [0, 1, 2, 5, 8]:
            for way in [(0,), (1,), (-1,), (0, 0), (True,), (None,), ("",), ([],), ((),)] + NO_TUPLES:
                for ways in [[way], [(), way], [way, ()]]:
                    before = list(ways)
                    self.refused(NoWay, part, ledger, k, ways)
                    self.assertEqual(ways, before)

    def test_of_a_sheaf_at_any_place_of_the_list(self):
        ledger = some_ledger()
        for way in NO_LEAVES + NO_TUPLES:
            for ways in [[way], [way] + LEAVES, LEAVES + [way], LEAVES[:4] + [way] + LEAVES[4:], [(2,), way], [way, way]]:
                before = list(ways)
                self.refused(NoWay, part, ledger, 7, ways)
                self.assertEqual(ways, before)

    def test_truths_are_no_places(self):
        ledger = some_ledger()
        for ways in [[(True,)], [(False,)], [(0,), (True,)], [(True,), (0,)], [(False,), (1,)], [(0,), (1,), (True,)],
                     [(1,), (True,)], [(True,), (1,)], [(0,), (False,)]]:
            self.refused(NoWay, part, ledger, 3, ways)
        self.assertEqual(part(ledger, 3, [(1,), (0,)]), 3)

    def test_ways_that_came_ahead(self):
        ledger = some_ledger()
        self.refused(NoWay, part, ledger, 0, [(), ()])
        self.refused(NoWay, part, ledger, 3, [(0,), (0,)])
        self.refused(NoWay, part, ledger, 3, [(0,), (1,), (0,)])
        self.refused(NoWay, part, ledger, 3, [(1,), (0,), (1,), (0,)])
        for at in range(8):
            for by in range(9):
                self.refused(NoWay, part, ledger, 7, LEAVES[:by] + [LEAVES[at]] + LEAVES[by:])
            self.refused(NoWay, part, ledger, 7, [LEAVES[at], LEAVES[at]])
            self.refused(NoWay, part, ledger, 7, [LEAVES[at], LEAVES[at - 1], LEAVES[at]])

    def test_ways_of_one_leaf_at_several_places_are_several(self):
        ledger = some_ledger()
        same = ledger.sheaf("", [0, 0])
        self.assertEqual(part(ledger, same, [(1,), (0,)]), same)


class TestWhichGoesFirst(Refusals):
    def test_fault_then_test(self):
        for ledger in ledgers():
            for k in no_numbers(ledger) + [None]:
                for thing in NO_TESTS[::7] + [("kind", "none"), ("and", GOOD, None), None]:
                    for function in BY_TEST:
                        self.refused(NoFault, function, ledger, k, thing)

    def test_fault_then_ways(self):
        for ledger in ledgers():
            for k in no_numbers(ledger) + [None]:
                for way in [None, [0], (-1,), (True,), ("",), ([],)]:
                    self.refused(NoFault, part, ledger, k, [way])
                    self.refused(NoFault, part, ledger, k, [(), way, ()])

    def test_both_faults(self):
        for ledger in ledgers():
            for k in no_numbers(ledger) + [None]:
                for j in no_numbers(ledger)[::3] + [None]:
                    self.refused(NoFault, alike, ledger, k, j)


class TestBehindRefusals(Refusals):
    def refuse_all(self, ledger):
        for function in BY_TEST:
            self.refused(NoFault, function, ledger, ledger.many(), GOOD)
            self.refused(NoTest, function, ledger, 7, ("or", GOOD, ("kind", "none")))
        self.refused(NoFault, row, ledger, -1)
        self.refused(NoFault, alike, ledger, 0, True)
        self.refused(NoFault, part, ledger, None, [()])
        self.refused(NoWay, part, ledger, 7, [(1, 1, 0), (2,), (1, 1)])
        self.refused(NoWay, part, ledger, 7, [(1, 1, 0), (2,), (1, 1, 0)])

    def test_good_calls_are_done_as_ever(self):
        ledger = some_ledger()
        other = some_ledger()
        calls = [
            (fits, 0, GOOD), (part, 7, [(1, 1, 0), (2,)]), (split, 7, ("kind", "net")), (placed, 7, ("kind", "net")),
            (row, 3), (alike, 3, 3), (split, 3, ("says", "gone")), (part, 4, []), (alike, 0, 1), (fits, 3, GOOD),
        ]
        for function, *given in calls:
            self.refuse_all(ledger)
            self.assertEqual(function(ledger, *given), function(other, *given))
            self.assertEqual(told(ledger), told(other))


if __name__ == "__main__":
    unittest.main()
