"""What comes out of out catchers: what is left, what rose again, and what rose anew."""

import itertools
import unittest

from faultsheaves.catchers import come_out, taken_out
from faultsheaves.parts import alike

from catching import wanted_out
from ledgers import empty_ledger, some_ledger, told
from parting import SOME_TESTS, Dice, check_part, grown_ledger

NEVER = ("says", "nowhere")
ALWAYS = ("kind", "fault")


def copied(taken):
    """The same hands, in a list of their own."""
    return (list(taken[0]), taken[1])


class ComesOut(unittest.TestCase):
    def out(self, ledger, k, taken, again, anew):
        """What comes out, looked at whole; what was there stays as it was, and the lists do."""
        many = ledger.many()
        before = told(ledger)
        given = [copied(taken), list(again), list(anew)]
        with self.subTest(k=k, taken=taken, again=again, anew=anew):
            wanted = wanted_out(ledger, k, taken, again, anew)
            found = come_out(ledger, k, *given)
            self.assertEqual(given, [taken, again, anew])
            self.assertEqual(told(ledger)[:many], before)
            check_part(self, ledger, many, wanted, found)
        return found

    def leaves(self, ledger, k):
        return [number for _, number in ledger.leaves(k)]


class TestNothingAnew(ComesOut):
    TESTS = [("kind", "disk"), ("kind", "io"), NEVER]

    def test_none_again_what_is_left(self):
        ledger = some_ledger()
        taken = taken_out(ledger, 7, self.TESTS)
        found = self.out(ledger, 7, taken, [False, False, False], [])
        self.assertEqual(self.leaves(ledger, found), [5, 2])
        self.assertIs(alike(ledger, found, taken[1]), True)

    def test_one_again(self):
        ledger = some_ledger()
        taken = taken_out(ledger, 7, self.TESTS)
        found = self.out(ledger, 7, taken, [True, False, False], [])
        self.assertEqual(self.leaves(ledger, found), [5, 0, 2, 0])
        found = self.out(ledger, 7, taken, [False, True, False], [])
        self.assertEqual(self.leaves(ledger, found), [5, 1, 1, 1, 2, 1])

    def test_all_again_the_fault_itself(self):
        ledger = some_ledger()
        for k in [3, 4, 7]:
            for tests in [self.TESTS, [ALWAYS], [("kind", "io")], [("kind", "net"), ALWAYS]]:
                taken = taken_out(ledger, k, tests)
                self.assertEqual(self.out(ledger, k, taken, [True] * len(tests), []), k)

    def test_no_hands_the_fault_itself(self):
        ledger = some_ledger()
        for k in range(9):
            for tests in [[], [NEVER], [NEVER, NEVER]]:
                taken = taken_out(ledger, k, tests)
                for again in itertools.product([True, False], repeat=len(tests)):
                    self.assertEqual(self.out(ledger, k, taken, list(again), []), k)

    def test_nothing_left_and_none_again(self):
        ledger = some_ledger()
        for k in [3, 4, 6, 7]:
            for tests in [[ALWAYS], [("kind", "net"), ALWAYS], [NEVER, ALWAYS, ALWAYS]]:
                taken = taken_out(ledger, k, tests)
                self.assertIsNone(taken[1])
                self.assertIsNone(self.out(ledger, k, taken, [False] * len(tests), []))

    def test_nothing_left_and_one_again(self):
        ledger = some_ledger()
        taken = taken_out(ledger, 7, [("kind", "net"), ("kind", "disk"), ALWAYS])
        self.assertIsNone(taken[1])
        for at, leaves in enumerate([[1, 1, 1, 1], [0, 0], [5, 2]]):
            again = [False] * 3
            again[at] = True
            self.assertEqual(self.leaves(ledger, self.out(ledger, 7, taken, again, [])), leaves)

    def test_the_truth_where_there_is_no_hand(self):
        ledger = some_ledger()
        taken = taken_out(ledger, 7, [NEVER, ("kind", "net"), NEVER])
        self.assertEqual([hand is None for hand in taken[0]], [True, False, True])
        for first, last in itertools.product([True, False], repeat=2):
            found = self.out(ledger, 7, taken, [first, False, last], [])
            self.assertEqual(self.leaves(ledger, found), [5, 0, 2, 0])
            self.assertEqual(self.out(ledger, 7, taken, [first, True, last], []), 7)
        gone = taken_out(ledger, 7, [NEVER, ALWAYS])
        self.assertIsNone(self.out(ledger, 7, gone, [True, False], []))
        self.assertIsNone(self.out(ledger, 7, gone, [False, False], []))

    def test_in_the_order_of_the_fault(self):
        ledger = some_ledger()
        sheaf = ledger.sheaf("", [0, 1, 2, 5, 8, 0, 1])
        taken = taken_out(ledger, sheaf, [("says", "full"), ("kind", "zero"), ("kind", "net")])
        found = self.out(ledger, sheaf, taken, [True, False, True], [])
        self.assertEqual(ledger.members(found), [0, 1, 2, 8, 0, 1])
        found = self.out(ledger, sheaf, taken, [False, True, False], [])
        self.assertEqual(ledger.members(found), [2, 5])

    def test_a_new_one_each_time(self):
        ledger = some_ledger()
        taken = taken_out(ledger, 7, self.TESTS)
        many = ledger.many()
        found = [self.out(ledger, 7, taken, [True, False, False], []) for _ in range(3)]
        self.assertEqual(len(set(found)), 3)
        self.assertGreaterEqual(min(found), many)


class TestAnew(ComesOut):
    TESTS = [("kind", "disk"), ("kind", "net"), NEVER]

    def test_one_and_what_is_back(self):
        ledger = some_ledger()
        taken = taken_out(ledger, 7, self.TESTS)
        found = self.out(ledger, 7, taken, [False] * 3, [8])
        self.assertEqual((ledger.kind(found), ledger.text(found)), ("sheaf", ""))
        self.assertEqual((ledger.notes(found), ledger.cause(found), ledger.at_work(found)), ([], None, None))
        members = ledger.members(found)
        self.assertEqual((len(members), members[0]), (2, 8))
        self.assertEqual(self.leaves(ledger, members[1]), [5, 2])
        self.assertIs(alike(ledger, members[1], taken[1]), True)

    def test_one_alone(self):
        ledger = some_ledger()
        taken = taken_out(ledger, 3, [ALWAYS])
        for new in range(9):
            found = self.out(ledger, 3, taken, [False], [new])
            self.assertEqual((ledger.text(found), ledger.members(found)), ("", [new]))

    def test_several_in_order(self):
        ledger = some_ledger()
        taken = taken_out(ledger, 7, self.TESTS)
        for anew in [[8, 2], [2, 8], [8, 2, 8], [0, 1, 3], [3, 1, 0], [8, 8], [6, 6, 6]]:
            found = self.out(ledger, 7, taken, [False] * 3, anew)
            self.assertEqual(ledger.members(found)[:-1], anew)
            self.assertEqual(self.leaves(ledger, ledger.members(found)[-1]), [5, 2])
        gone = taken_out(ledger, 7, [ALWAYS])
        for anew in [[8, 2], [2, 8], [8, 2, 8], [8, 8]]:
            self.assertEqual(ledger.members(self.out(ledger, 7, gone, [False], anew)), anew)

    def test_with_one_that_rose_again(self):
        ledger = some_ledger()
        taken = taken_out(ledger, 7, self.TESTS)
        found = self.out(ledger, 7, taken, [True, False, True], [8])
        self.assertEqual(self.leaves(ledger, found), [8, 5, 0, 2, 0])
        found = self.out(ledger, 7, taken, [False, True, False], [2, 8])
        self.assertEqual(self.leaves(ledger, found), [2, 8, 5, 1, 1, 1, 2, 1])

    def test_with_all_back(self):
        ledger = some_ledger()
        taken = taken_out(ledger, 7, self.TESTS)
        self.assertEqual(ledger.members(self.out(ledger, 7, taken, [True] * 3, [8])), [8, 7])
        taken = taken_out(ledger, 7, [])
        self.assertEqual(ledger.members(self.out(ledger, 7, taken, [], [8, 2])), [8, 2, 7])

    def test_the_fault_itself_anew(self):
        ledger = some_ledger()
        for k in range(9):
            taken = taken_out(ledger, k, [ALWAYS])
            self.assertEqual(ledger.members(self.out(ledger, k, taken, [False], [k])), [k])
            self.assertEqual(ledger.members(self.out(ledger, k, taken, [True], [k])), [k, k])
            self.assertEqual(ledger.members(self.out(ledger, k, taken, [True], [k, k])), [k, k, k])

    def test_hands_anew(self):
        ledger = some_ledger()
        taken = taken_out(ledger, 7, self.TESTS)
        first, second, _ = taken[0]
        found = self.out(ledger, 7, taken, [False] * 3, [second, first, taken[1]])
        self.assertEqual(ledger.members(found)[:3], [second, first, taken[1]])
        self.assertEqual(self.leaves(ledger, ledger.members(found)[3]), [5, 2])

    def test_leaves_anew_are_not_back(self):
        ledger = some_ledger()
        taken = taken_out(ledger, 3, [("kind", "disk")])
        found = self.out(ledger, 3, taken, [False], [0])
        self.assertEqual(ledger.members(found)[0], 0)
        self.assertEqual(self.leaves(ledger, found), [0, 1])

    def test_list_changed_behind(self):
        ledger = some_ledger()
        taken = taken_out(ledger, 3, [ALWAYS])
        anew = [8, 2]
        again = [False]
        found = come_out(ledger, 3, taken, again, anew)
        anew.append(5)
        anew[0] = 1
        again[0] = True
        taken[0].clear()
        self.assertEqual(ledger.members(found), [8, 2])

    def test_a_new_one_each_time(self):
        ledger = some_ledger()
        taken = taken_out(ledger, 3, [ALWAYS])
        found = [self.out(ledger, 3, taken, [False], [8]) for _ in range(3)]
        self.assertEqual(len(set(found)), 3)


class TestOfPlainFaults(ComesOut):
    def test_again(self):
        ledger = some_ledger()
        for k in [0, 1, 2, 5, 8]:
            taken = taken_out(ledger, k, [NEVER, ALWAYS])
            for first in [True, False]:
                self.assertEqual(self.out(ledger, k, taken, [first, True], []), k)
                self.assertIsNone(self.out(ledger, k, taken, [first, False], []))

    def test_left(self):
        ledger = some_ledger()
        for k in [0, 1, 2, 5, 8]:
            taken = taken_out(ledger, k, [NEVER])
            for first in [True, False]:
                self.assertEqual(self.out(ledger, k, taken, [first], []), k)
                self.assertEqual(ledger.members(self.out(ledger, k, taken, [first], [7])), [7, k])

    def test_anew(self):
        ledger = some_ledger()
        for k in [0, 1, 2, 5, 8]:
            taken = taken_out(ledger, k, [ALWAYS])
            self.assertEqual(ledger.members(self.out(ledger, k, taken, [False], [3, 4])), [3, 4])
            self.assertEqual(ledger.members(self.out(ledger, k, taken, [True], [3, 4])), [3, 4, k])
            hand = taken[0][0]
            self.assertEqual(ledger.members(self.out(ledger, k, taken, [False], [hand])), [hand])


class TestSeveralPlaces(ComesOut):
    def test_leaves_at_several_places(self):
        ledger = some_ledger()
        sheaf = ledger.sheaf("s", [1, 3, 1, 0, 4, 2])
        taken = taken_out(ledger, sheaf, [("kind", "net"), ("kind", "disk")])
        for again, wanted in [
            ([False, False], [2]), ([True, False], [1, 1, 1, 1, 1, 1, 2]), ([False, True], [0, 0, 0, 2]),
        ]:
            self.assertEqual(self.leaves(ledger, self.out(ledger, sheaf, taken, again, [])), wanted)
        self.assertEqual(self.out(ledger, sheaf, taken, [True, True], []), sheaf)

    def test_one_leaf_alone_at_many_places(self):
        ledger = some_ledger()
        sheaf = ledger.sheaf("s", [1, 1, 1])
        taken = taken_out(ledger, sheaf, [("kind", "net")])
        self.assertEqual(self.out(ledger, sheaf, taken, [True], []), sheaf)
        self.assertIsNone(self.out(ledger, sheaf, taken, [False], []))


class TestBehind(ComesOut):
    def test_notes_that_the_fault_got_behind(self):
        ledger = some_ledger()
        taken = taken_out(ledger, 7, [("kind", "net"), ("kind", "disk")])
        ledger.note(7, "late")
        ledger.note(3, "deep")
        found = self.out(ledger, 7, taken, [True, False], [])
        self.assertEqual(ledger.notes(found), ["late"])
        inner = ledger.led(found, (1, 1))
        self.assertEqual(ledger.notes(inner), ["b", "a", "b", "deep"])
        for number in taken[0] + [taken[1]]:
            self.assertEqual(ledger.notes(number), [])

    def test_notes_that_hands_got(self):
        ledger = some_ledger()
        taken = taken_out(ledger, 3, [("kind", "net")])
        hand = taken[0][0]
        ledger.note(hand, "hand")
        ledger.note(taken[1], "left")
        found = self.out(ledger, 3, taken, [False], [])
        self.assertEqual((ledger.notes(found), ledger.members(found)), (["b", "a", "b"], [0]))
        self.assertEqual(self.out(ledger, 3, taken, [True], []), 3)
        self.assertEqual(ledger.notes(3), ["b", "a", "b"])

    def test_a_cause_and_a_rising_behind(self):
        ledger = some_ledger()
        taken = taken_out(ledger, 7, [("kind", "net")])
        ledger.blame(7, 8)
        ledger.rise(7, 2)
        found = self.out(ledger, 7, taken, [False], [])
        self.assertEqual((ledger.cause(found), ledger.at_work(found)), (8, 2))
        found = self.out(ledger, 7, taken, [False], [8])
        self.assertEqual((ledger.cause(found), ledger.at_work(found)), (None, None))
        back = ledger.members(found)[1]
        self.assertEqual((ledger.cause(back), ledger.at_work(back)), (8, 2))

    def test_tests_are_not_asked_again(self):
        ledger = some_ledger()
        taken = taken_out(ledger, 3, [("noted", "first")])
        ledger.note(1, "first")
        self.assertEqual(self.leaves(ledger, self.out(ledger, 3, taken, [False], [])), [1])

    def test_by_numbers_of_leaves(self):
        ledger = empty_ledger()
        for _ in range(3):
            ledger.plain("io", "same")
        ledger.note(1, "n")
        sheaf = ledger.sheaf("", [0, 1, 2])
        taken = taken_out(ledger, sheaf, [("noted", "n")])
        self.assertEqual(ledger.members(self.out(ledger, sheaf, taken, [False], [])), [0, 2])

    def test_several_at_once(self):
        ledger = some_ledger()
        one = taken_out(ledger, 7, [("kind", "net")])
        other = taken_out(ledger, 4, [("kind", "disk")])
        self.out(ledger, 4, other, [False], [])
        self.out(ledger, 7, one, [False], [8])
        self.out(ledger, 4, other, [False], [8])
        self.out(ledger, 7, one, [False], [])


class TestGrown(ComesOut):
    def test_of_grown_ledgers(self):
        for seed in range(80):
            ledger = grown_ledger(seed + 900)
            dice = Dice(seed)
            for k in range(17):
                tests = [dice.one_of(SOME_TESTS) for _ in range(dice.below(5))]
                taken = taken_out(ledger, k, tests)
                again = [dice.below(2) == 0 for _ in tests]
                anew = [dice.below(17) for _ in range(dice.below(3))]
                self.out(ledger, k, taken, again, anew)
                self.out(ledger, k, taken, again, [])

    def test_of_some_faults_by_all_truths(self):
        for k in range(9):
            for tests in [[("kind", "net"), ("says", "full"), ("kind", "zero")], [("noted", "first"), NEVER, ALWAYS]]:
                ledger = some_ledger()
                taken = taken_out(ledger, k, tests)
                for again in itertools.product([True, False], repeat=3):
                    for anew in [[], [8], [0, 7]]:
                        self.out(ledger, k, taken, list(again), anew)


if __name__ == "__main__":
    unittest.main()
