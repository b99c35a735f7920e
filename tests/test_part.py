"""The part of a fault at some of its leaves."""

import itertools
import unittest

from faultsheaves.parts import part

from ledgers import empty_ledger, some_ledger, told
from parting import Dice, check_part, grown_ledger, wanted_part


def ways_of(ledger, k):
    """The ways of all leaves, in order."""
    return [way for way, _ in ledger.leaves(k)]


class Parts(unittest.TestCase):
    def part(self, ledger, k, ways):
        """The part, looked at whole; and what was there stays as it was."""
        many = ledger.many()
        before = told(ledger)
        given = list(ways)
        with self.subTest(k=k, ways=ways):
            number = part(ledger, k, given)
            self.assertEqual(given, ways)
            self.assertEqual(told(ledger)[:many], before)
            check_part(self, ledger, many, wanted_part(ledger, k, ways), number)
        return number


class TestNoneAndAll(Parts):
    def test_at_no_leaves(self):
        ledger = some_ledger()
        for k in range(9):
            self.assertIsNone(self.part(ledger, k, []))

    def test_at_all_leaves(self):
        ledger = some_ledger()
        for k in range(9):
            self.assertEqual(self.part(ledger, k, ways_of(ledger, k)), k)

    def test_at_all_leaves_in_any_order(self):
        ledger = some_ledger()
        for k in [3, 4]:
            for ways in itertools.permutations(ways_of(ledger, k)):
                self.assertEqual(self.part(ledger, k, list(ways)), k)
        ways = ways_of(ledger, 7)
        for turned in [ways[::-1], ways[3:] + ways[:3], ways[1::2] + ways[::2]]:
            self.assertEqual(self.part(ledger, 7, turned), 7)

    def test_of_a_plain_fault(self):
        ledger = some_ledger()
        for k in [0, 1, 2, 5, 8]:
            self.assertEqual(self.part(ledger, k, [()]), k)
            self.assertIsNone(self.part(ledger, k, []))

    def test_of_a_sheaf_of_one(self):
        ledger = some_ledger()
        self.assertEqual(self.part(ledger, 6, [(0,)]), 6)
        outer = ledger.sheaf("outer", [6])
        self.assertEqual(self.part(ledger, outer, [(0, 0)]), outer)


class TestNewSheaves(Parts):
    def test_like_the_sheaf(self):
        ledger = some_ledger()
        new = self.part(ledger, 3, [(1,)])
        self.assertGreaterEqual(new, 9)
        self.assertEqual((ledger.kind(new), ledger.text(new)), ("sheaf", "two"))
        self.assertEqual(ledger.notes(new), ["b", "a", "b"])
        self.assertEqual((ledger.cause(new), ledger.at_work(new)), (5, 1))
        self.assertEqual(ledger.members(new), [1])

    def test_cause_and_at_work_each_alone(self):
        for cause, at_work in [(None, None), (0, None), (None, 0), (0, 1), (1, 0)]:
            ledger = empty_ledger()
            ledger.plain("io", "a")
            ledger.plain("io", "b")
            sheaf = ledger.sheaf("", [0, 1])
            ledger.blame(sheaf, cause)
            ledger.rise(sheaf, at_work)
            new = self.part(ledger, sheaf, [(0,)])
            self.assertEqual((ledger.cause(new), ledger.at_work(new)), (cause, at_work))
            self.assertEqual((ledger.text(new), ledger.notes(new), ledger.members(new)), ("", [], [0]))

    def test_a_sheaf_that_is_its_own_cause(self):
        ledger = empty_ledger()
        ledger.plain("io", "")
        sheaf = ledger.sheaf("", [0, 0])
        ledger.blame(sheaf, sheaf)
        new = self.part(ledger, sheaf, [(1,)])
        self.assertEqual(ledger.cause(new), sheaf)

    def test_in_the_order_of_the_members(self):
        ledger = some_ledger()
        sheaf = ledger.sheaf("back", [8, 5, 2, 1, 0])
        for ways in [[(0,), (2,), (4,)], [(4,), (2,), (0,)], [(2,), (4,), (0,)]]:
            self.assertEqual(ledger.members(self.part(ledger, sheaf, ways)), [8, 2, 0])

    def test_more_than_ten_members(self):
        ledger = empty_ledger()
        for _ in range(12):
            ledger.plain("io", "")
        sheaf = ledger.sheaf("", list(range(12)))
        new = self.part(ledger, sheaf, [(11,), (10,), (9,), (2,), (1,)])
        self.assertEqual(ledger.members(new), [1, 2, 9, 10, 11])

    def test_members_that_go_whole(self):
        ledger = some_ledger()
        new = self.part(ledger, 7, [(0, 0), (1, 0), (1, 1, 0), (1, 1, 1), (1, 2)])
        self.assertEqual(ledger.members(new), [6, 4])
        other = self.part(ledger, 7, [(3, 1), (2,), (3, 0)])
        self.assertEqual(ledger.members(other), [2, 3])

    def test_members_that_come_apart(self):
        ledger = some_ledger()
        new = self.part(ledger, 7, [(1, 1, 0), (1, 2), (3, 0)])
        first, second = ledger.members(new)
        inner, last = ledger.members(first)
        self.assertEqual((ledger.text(first), last), ("again", 1))
        self.assertEqual((ledger.text(inner), ledger.notes(inner)), ("two", ["b", "a", "b"]))
        self.assertEqual((ledger.cause(inner), ledger.at_work(inner)), (5, 1))
        self.assertEqual((ledger.text(second), ledger.members(second)), ("two", [0]))
        self.assertEqual(ledger.members(inner), [0])

    def test_a_sheaf_of_one_stands_in_its_nest(self):
        ledger = some_ledger()
        outer = ledger.sheaf("outer", [6, 0])
        new = self.part(ledger, outer, [(0, 0)])
        self.assertEqual(ledger.members(new), [6])
        deeper = ledger.sheaf("deeper", [outer, 1])
        new = self.part(ledger, deeper, [(0, 0, 0)])
        inner = ledger.members(new)
        self.assertEqual([ledger.text(k) for k in inner], ["outer"])
        self.assertEqual(ledger.members(inner[0]), [6])

    def test_members_that_stand_there_twice(self):
        ledger = some_ledger()
        self.assertEqual(ledger.members(self.part(ledger, 4, [(0,), (2,)])), [1, 1])
        self.assertEqual(ledger.members(self.part(ledger, 4, [(2,)])), [1])
        same = ledger.sheaf("same", [0, 0, 0])
        self.assertEqual(ledger.members(self.part(ledger, same, [(0,), (2,)])), [0, 0])
        self.assertEqual(ledger.members(self.part(ledger, same, [(1,)])), [0])

    def test_shared_sheaves_come_apart_each_by_its_own_ways(self):
        ledger = some_ledger()
        twice = ledger.sheaf("twice", [3, 3, 3])
        new = self.part(ledger, twice, [(0, 0), (1, 1), (2, 0), (2, 1)])
        first, second, third = ledger.members(new)
        self.assertEqual((ledger.members(first), ledger.members(second), third), ([0], [1], 3))
        new = self.part(ledger, twice, [(0, 0), (2, 0)])
        self.assertEqual([ledger.members(k) for k in ledger.members(new)], [[0], [0]])


class TestAllWays(Parts):
    def test_at_each_choice_of_leaves(self):
        for k in [3, 4, 6, 7]:
            ways = ways_of(some_ledger(), k)
            for many in range(len(ways) + 1):
                for chosen in itertools.combinations(ways, many):
                    self.part(some_ledger(), k, list(chosen))
                    self.part(some_ledger(), k, list(chosen)[::-1])

    def test_of_grown_ledgers(self):
        dice = Dice(5)
        for seed in range(12):
            ledger = grown_ledger(seed)
            for k in range(17):
                ways = ways_of(ledger, k)
                for sides in [2, 2, 4]:
                    self.part(ledger, k, [way for way in ways if dice.below(sides) == 0])
                self.part(ledger, k, [way for way in ways[::-1] if dice.below(4) > 0])


class TestStays(Parts):
    def test_asked_again_a_new_sheaf_again(self):
        ledger = some_ledger()
        ways = [(1, 1, 0), (2,)]
        numbers = [self.part(ledger, 7, ways) for _ in range(4)]
        self.assertEqual(len(set(numbers)), 4)
        inner = [ledger.members(ledger.members(k)[0])[0] for k in numbers]
        self.assertEqual(len(set(inner)), 4)

    def test_the_list_handed_in_changed_behind(self):
        ledger = some_ledger()
        ways = [(1, 1, 0), (2,)]
        new = part(ledger, 7, ways)
        after = told(ledger)
        ways.append((0, 0))
        ways[0] = (3, 0)
        self.assertEqual(told(ledger), after)
        ways.clear()
        self.assertEqual(told(ledger), after)
        self.assertEqual([way for way, _ in ledger.leaves(new)], [(0, 0, 0), (1,)])

    def test_told_lists_are_the_askers_own(self):
        ledger = some_ledger()
        new = part(ledger, 7, [(1, 1, 0), (2,)])
        after = told(ledger)
        ledger.members(new).append(0)
        ledger.notes(ledger.members(ledger.members(new)[0])[0]).clear()
        ledger.leaves(new).clear()
        self.assertEqual(told(ledger), after)

    def test_what_comes_to_the_sheaf_later(self):
        ledger = some_ledger()
        new = part(ledger, 3, [(0,)])
        ledger.note(3, "late")
        ledger.blame(3, 0)
        ledger.rise(3, 8)
        self.assertEqual(ledger.notes(new), ["b", "a", "b"])
        self.assertEqual((ledger.cause(new), ledger.at_work(new)), (5, 1))
        newer = part(ledger, 3, [(0,)])
        self.assertEqual(ledger.notes(newer), ["b", "a", "b", "late"])
        self.assertEqual((ledger.cause(newer), ledger.at_work(newer)), (0, 8))
        ledger.blame(3, None)
        self.assertIsNone(ledger.cause(part(ledger, 3, [(0,)])))
        self.assertEqual(ledger.cause(newer), 0)

    def test_what_comes_to_the_part_later(self):
        ledger = some_ledger()
        before = told(ledger)
        new = part(ledger, 3, [(0,)])
        ledger.note(new, "late")
        ledger.blame(new, 0)
        ledger.rise(new, 8)
        self.assertEqual(told(ledger)[:9], before)
        self.assertEqual((ledger.notes(new), ledger.cause(new), ledger.at_work(new)), (["b", "a", "b", "late"], 0, 8))
        self.assertEqual(ledger.notes(part(ledger, 3, [(0,)])), ["b", "a", "b"])

    def test_what_comes_to_members_later(self):
        ledger = some_ledger()
        new = part(ledger, 7, [(1, 1, 0), (2,)])
        inner = ledger.members(ledger.members(new)[0])[0]
        ledger.note(3, "of three")
        ledger.note(inner, "of the new one")
        self.assertEqual(ledger.notes(3), ["b", "a", "b", "of three"])
        self.assertEqual(ledger.notes(inner), ["b", "a", "b", "of the new one"])
        newer = part(ledger, 7, [(1, 1, 0), (2,)])
        self.assertEqual(ledger.notes(ledger.members(ledger.members(newer)[0])[0]), ["b", "a", "b", "of three"])

    def test_of_a_twin_alone(self):
        ledger = some_ledger()
        twin = ledger.twin()
        before = told(ledger)
        new = part(twin, 7, [(1, 0), (3, 1)])
        self.assertEqual(told(ledger), before)
        self.assertGreater(twin.many(), 9)
        self.assertEqual([j for _, j in twin.leaves(new)], [1, 1])

    def test_parts_of_parts(self):
        ledger = some_ledger()
        new = self.part(ledger, 7, [(0, 0), (1, 1, 0), (1, 1, 1), (3, 1)])
        inner = ledger.members(new)[1]
        self.assertEqual(ledger.members(inner), [3])
        again = self.part(ledger, new, [(1, 0, 1), (2, 0)])
        self.assertEqual([j for _, j in ledger.leaves(again)], [1, 1])
        self.assertEqual(self.part(ledger, inner, [(0, 0), (0, 1)]), inner)

    def test_sheaves_of_parts(self):
        ledger = some_ledger()
        new = part(ledger, 4, [(0,), (1, 0)])
        outer = ledger.sheaf("outer", [new, 4, new])
        both = self.part(ledger, outer, [(0, 0), (0, 1, 0), (1, 0)])
        self.assertEqual(ledger.members(both)[0], new)

    def test_new_faults_come_behind(self):
        ledger = some_ledger()
        new = part(ledger, 7, [(1, 1, 0)])
        many = ledger.many()
        self.assertLess(new, many)
        self.assertEqual(ledger.plain("io", "next"), many)


if __name__ == "__main__":
    unittest.main()
