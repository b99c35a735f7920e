"""Faults parted by a test: what fits and what is left, and where each leaf goes."""

import unittest

from faultsheaves.fitting import fits
from faultsheaves.parts import alike, part, placed, split

from ledgers import empty_ledger, some_ledger, told
from parting import SOME_TESTS, check_part, fitting_ways, grown_ledger, wanted_part


class Splits(unittest.TestCase):
    def split(self, ledger, k, test):
        """Both parts, looked at whole; and what was there stays as it was."""
        many = ledger.many()
        before = told(ledger)
        with self.subTest(k=k, test=test):
            both = split(ledger, k, test)
            self.assertIs(both.__class__, tuple)
            self.assertEqual(len(both), 2)
            self.assertEqual(told(ledger)[:many], before)
            for number, ways in zip(both, fitting_ways(ledger, k, lambda j: fits(ledger, j, test))):
                check_part(self, ledger, many, wanted_part(ledger, k, ways), number)
        return both

    def placed(self, ledger, k, test):
        """Where each leaf goes, looked at by what split makes then."""
        before = told(ledger)
        with self.subTest(k=k, test=test):
            found = placed(ledger, k, test)
            self.assertEqual(told(ledger), before)
            self.assertIs(found.__class__, list)
            self.check_placed(ledger, k, test, found)
        return found

    def check_placed(self, ledger, k, test, found):
        both = split(ledger, k, test)
        leaves = ledger.leaves(k)
        self.assertEqual([way for way, _, _ in found], [way for way, _ in leaves])
        for at, (_, side, there) in enumerate(found):
            self.assertIs(side.__class__, int)
            self.assertEqual(side, 0 if fits(ledger, leaves[at][1], test) else 1)
            self.assertEqual(ledger.led(both[side], there), leaves[at][1])
        for side in [0, 1]:
            theres = [] if both[side] is None else [way for way, _ in ledger.leaves(both[side])]
            self.assertEqual([there for _, of, there in found if of == side], theres)


class TestSplit(Splits):
    def test_plain_faults(self):
        ledger = some_ledger()
        self.assertEqual(self.split(ledger, 0, ("kind", "io")), (0, None))
        self.assertEqual(self.split(ledger, 0, ("kind", "net")), (None, 0))
        self.assertEqual(self.split(ledger, 2, ("says", "")), (2, None))
        self.assertEqual(self.split(ledger, 2, ("not", ("says", ""))), (None, 2))

    def test_all_or_none(self):
        ledger = some_ledger()
        for k in range(9):
            self.assertEqual(self.split(ledger, k, ("kind", "fault")), (k, None))
            self.assertEqual(self.split(ledger, k, ("says", "nowhere")), (None, k))

    def test_both_sides(self):
        ledger = some_ledger()
        fit, left = self.split(ledger, 3, ("kind", "disk"))
        self.assertEqual((ledger.members(fit), ledger.members(left)), ([0], [1]))
        for new in [fit, left]:
            self.assertGreaterEqual(new, 9)
            self.assertEqual((ledger.text(new), ledger.notes(new)), ("two", ["b", "a", "b"]))
            self.assertEqual((ledger.cause(new), ledger.at_work(new)), (5, 1))

    def test_in_the_same_nest_and_order(self):
        ledger = some_ledger()
        fit, left = self.split(ledger, 7, ("kind", "net"))
        self.assertEqual([j for _, j in ledger.leaves(fit)], [1, 1, 1, 1])
        self.assertEqual([way for way, _ in ledger.leaves(fit)], [(0, 0), (0, 1, 0), (0, 2), (1, 0)])
        self.assertEqual([j for _, j in ledger.leaves(left)], [5, 0, 2, 0])
        self.assertEqual([way for way, _ in ledger.leaves(left)], [(0, 0), (1, 0, 0), (2,), (3, 0)])
        self.assertEqual(ledger.members(left)[0], 6)

    def test_members_that_go_whole(self):
        ledger = some_ledger()
        fit, left = self.split(ledger, 7, ("kind", "io"))
        self.assertEqual((ledger.members(fit), ledger.members(left)), ([4, 3], [6, 2]))

    def test_tests_are_asked_of_leaves_alone(self):
        ledger = some_ledger()
        for test in [("kind", "sheaf"), ("says", "deep"), ("says", "two"), ("says", "again"), ("noted", "a")]:
            for k in [3, 4, 6, 7]:
                self.assertEqual(self.split(ledger, k, test), (None, k))
                self.assertEqual(self.split(ledger, k, ("not", test)), (k, None))

    def test_notes_of_the_sheaf_are_not_the_leaves(self):
        ledger = empty_ledger()
        ledger.plain("io", "a")
        ledger.plain("io", "b")
        ledger.sheaf("c", [0, 1])
        ledger.note(2, "x")
        ledger.note(0, "y")
        self.assertEqual(self.split(ledger, 2, ("noted", "x")), (None, 2))
        fit, left = self.split(ledger, 2, ("noted", "y"))
        self.assertEqual((ledger.members(fit), ledger.members(left)), ([0], [1]))
        self.assertEqual((ledger.notes(fit), ledger.notes(left)), (["x"], ["x"]))

    def test_members_twice_and_shared_sheaves(self):
        ledger = some_ledger()
        sheaf = ledger.sheaf("shared", [3, 0, 3, 4, 0])
        fit, left = self.split(ledger, sheaf, ("kind", "disk"))
        self.assertEqual([j for _, j in ledger.leaves(fit)], [0, 0, 0, 0, 0])
        self.assertEqual([j for _, j in ledger.leaves(left)], [1, 1, 1, 1, 1])

    def test_asked_again_new_sheaves_again(self):
        ledger = some_ledger()
        found = [self.split(ledger, 4, ("kind", "net")) for _ in range(3)]
        self.assertEqual(len({number for both in found for number in both}), 6)

    def test_of_all_faults_by_all_tests(self):
        ledger = some_ledger()
        for k in range(9):
            for test in SOME_TESTS:
                self.split(ledger, k, test)

    def test_of_grown_ledgers(self):
        for seed in range(6):
            for at, test in enumerate(SOME_TESTS):
                ledger = grown_ledger(seed * 100 + at)
                for k in range(17):
                    self.split(ledger, k, test)

    def test_as_part_does(self):
        ledger = grown_ledger(77)
        for k in range(17):
            for test in SOME_TESTS:
                ways, others = fitting_ways(ledger, k, lambda j, test=test: fits(ledger, j, test))
                fit, left = split(ledger, k, test)
                for number, chosen in [(fit, ways), (left, others)]:
                    same = part(ledger, k, chosen)
                    self.assertTrue(number is None and same is None or alike(ledger, number, same))


class TestLater(Splits):
    def test_leaves_by_what_they_have_then(self):
        ledger = some_ledger()
        self.assertEqual(split(ledger, 3, ("noted", "late")), (None, 3))
        ledger.note(0, "late")
        fit, left = self.split(ledger, 3, ("noted", "late"))
        self.assertEqual((ledger.members(fit), ledger.members(left)), ([0], [1]))
        ledger.note(1, "late")
        self.assertEqual(self.split(ledger, 3, ("noted", "late")), (3, None))
        self.assertEqual((ledger.members(fit), ledger.members(left)), ([0], [1]))

    def test_what_comes_to_the_fault_stays_its_own(self):
        ledger = some_ledger()
        fit, left = split(ledger, 3, ("kind", "disk"))
        after = [told(ledger)[fit], told(ledger)[left]]
        ledger.note(3, "late")
        ledger.blame(3, None)
        ledger.rise(3, 8)
        self.assertEqual([told(ledger)[fit], told(ledger)[left]], after)
        for new in self.split(ledger, 3, ("kind", "disk")):
            self.assertEqual(ledger.notes(new), ["b", "a", "b", "late"])
            self.assertEqual((ledger.cause(new), ledger.at_work(new)), (None, 8))

    def test_what_comes_to_a_part_stays_its_own(self):
        ledger = some_ledger()
        fit, left = split(ledger, 3, ("kind", "disk"))
        before = told(ledger)
        ledger.note(fit, "late")
        ledger.blame(fit, 2)
        ledger.rise(fit, 8)
        self.assertEqual((ledger.notes(fit), ledger.cause(fit), ledger.at_work(fit)), (["b", "a", "b", "late"], 2, 8))
        self.assertEqual(told(ledger)[:9], before[:9])
        self.assertEqual(told(ledger)[left], before[left])

    def test_of_a_twin_alone(self):
        ledger = some_ledger()
        twin = ledger.twin()
        twin.note(0, "late")
        before = told(ledger)
        fit, left = split(twin, 3, ("noted", "late"))
        self.assertEqual((twin.members(fit), twin.members(left)), ([0], [1]))
        self.assertEqual(told(ledger), before)
        self.assertEqual(split(ledger, 3, ("noted", "late")), (None, 3))


class TestPlaced(Splits):
    def test_plain_faults(self):
        ledger = some_ledger()
        self.assertEqual(self.placed(ledger, 0, ("kind", "io")), [((), 0, ())])
        self.assertEqual(self.placed(ledger, 0, ("kind", "net")), [((), 1, ())])

    def test_of_a_sheaf(self):
        ledger = some_ledger()
        self.assertEqual(self.placed(ledger, 3, ("kind", "disk")), [((0,), 0, (0,)), ((1,), 1, (0,))])
        self.assertEqual(self.placed(ledger, 3, ("kind", "net")), [((0,), 1, (0,)), ((1,), 0, (0,))])
        wanted = [((0,), 0, (0,)), ((1, 0), 1, (0, 0)), ((1, 1), 0, (1, 0)), ((2,), 0, (2,))]
        self.assertEqual(self.placed(ledger, 4, ("kind", "net")), wanted)

    def test_of_sheaves_in_sheaves(self):
        wanted = [
            ((0, 0), 1, (0, 0)), ((1, 0), 0, (0, 0)), ((1, 1, 0), 1, (1, 0, 0)), ((1, 1, 1), 0, (0, 1, 0)),
            ((1, 2), 0, (0, 2)), ((2,), 1, (2,)), ((3, 0), 1, (3, 0)), ((3, 1), 0, (1, 0)),
        ]
        self.assertEqual(self.placed(some_ledger(), 7, ("kind", "net")), wanted)

    def test_all_on_one_side(self):
        ledger = some_ledger()
        for k in range(9):
            ways = [way for way, _ in ledger.leaves(k)]
            self.assertEqual(self.placed(ledger, k, ("kind", "fault")), [(way, 0, way) for way in ways])
            self.assertEqual(self.placed(ledger, k, ("says", "nowhere")), [(way, 1, way) for way in ways])

    def test_more_than_ten_members(self):
        ledger = empty_ledger()
        for k in range(30):
            ledger.plain("net" if k % 2 else "disk", "")
        sheaf = ledger.sheaf("", list(range(30)))
        wanted = [((k,), k % 2, (k // 2,)) for k in range(30)]
        self.assertEqual(self.placed(ledger, sheaf, ("kind", "disk")), wanted)

    def test_same_leaf_at_several_places(self):
        ledger = some_ledger()
        sheaf = ledger.sheaf("", [1, 0, 1, 3, 0, 3])
        wanted = [
            ((0,), 1, (0,)), ((1,), 0, (0,)), ((2,), 1, (1,)), ((3, 0), 0, (1, 0)), ((3, 1), 1, (2, 0)),
            ((4,), 0, (2,)), ((5, 0), 0, (3, 0)), ((5, 1), 1, (3, 0)),
        ]
        self.assertEqual(self.placed(ledger, sheaf, ("kind", "disk")), wanted)

    def test_of_all_faults_by_all_tests(self):
        ledger = some_ledger()
        for k in range(9):
            for test in SOME_TESTS:
                self.placed(ledger, k, test)

    def test_of_grown_ledgers(self):
        for seed in range(6):
            for at, test in enumerate(SOME_TESTS):
                ledger = grown_ledger(seed * 100 + at + 50)
                for k in range(17):
                    self.placed(ledger, k, test)

    def test_told_lists_are_the_askers_own(self):
        ledger = some_ledger()
        first = placed(ledger, 7, ("kind", "net"))
        second = placed(ledger, 7, ("kind", "net"))
        wanted = list(second)
        first.clear()
        self.assertEqual(second, wanted)
        self.assertEqual(placed(ledger, 7, ("kind", "net")), wanted)

    def test_kinds_of_values(self):
        for row in placed(some_ledger(), 7, ("kind", "net")):
            self.assertIs(row.__class__, tuple)
            way, _, there = row
            for told_way in [way, there]:
                self.assertIs(told_way.__class__, tuple)
                self.assertEqual([place.__class__ for place in told_way], [int] * len(told_way))

    def test_by_what_leaves_have_then(self):
        ledger = some_ledger()
        self.assertEqual([side for _, side, _ in placed(ledger, 3, ("noted", "late"))], [1, 1])
        ledger.note(1, "late")
        self.assertEqual([side for _, side, _ in placed(ledger, 3, ("noted", "late"))], [1, 0])


class TestByTwoTests(unittest.TestCase):
    def parted(self, ledger, k, first, second):
        """The four parts, by the first test and then by the second one."""
        found = []
        for number in split(ledger, k, first):
            found.append((None, None) if number is None else split(ledger, number, second))
        return found

    def check(self, ledger, k, first, second):
        many = ledger.many()
        before = told(ledger)
        with self.subTest(k=k, first=first, second=second):
            ahead = self.parted(ledger, k, first, second)
            behind = self.parted(ledger, k, second, first)
            for at in [0, 1]:
                for by in [0, 1]:
                    one, other = ahead[at][by], behind[by][at]
                    self.assertEqual(one is None, other is None)
                    if one is not None:
                        self.assertIs(alike(ledger, one, other), True)
            self.assertEqual(told(ledger)[:many], before)

    def test_of_some_faults(self):
        for first in SOME_TESTS:
            ledger = some_ledger()
            for second in SOME_TESTS:
                for k in [0, 4, 6, 7]:
                    self.check(ledger, k, first, second)

    def test_of_grown_ledgers(self):
        for seed in range(len(SOME_TESTS)):
            ledger = grown_ledger(seed)
            for at, second in enumerate(SOME_TESTS):
                if (at + seed) % 3 == 0:
                    for k in [5, 8, 12, 16]:
                        self.check(ledger, k, SOME_TESTS[seed], second)

    def test_four_parts(self):
        ledger = empty_ledger()
        for kind in ["disk", "net"]:
            for text in ["full", "gone"]:
                ledger.plain(kind, text)
        ledger.sheaf("inner", [0, 1, 2, 3])
        ledger.sheaf("outer", [0, 1, 2, 3, 4, 4])
        ledger.note(4, "x")
        (first, second), (third, last) = self.parted(ledger, 5, ("kind", "disk"), ("says", "full"))
        for number, leaf in [(first, 0), (second, 1), (third, 2), (last, 3)]:
            self.assertEqual(ledger.leaves(number), [((0,), leaf), ((1, 0), leaf), ((2, 0), leaf)])
            self.assertEqual([ledger.notes(k) for k in ledger.members(number)], [[], ["x"], ["x"]])
        self.check(ledger, 5, ("kind", "disk"), ("says", "full"))


if __name__ == "__main__":
    unittest.main()
