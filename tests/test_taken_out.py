"""Out catchers: what each has in hand, and what is left."""

import itertools
import unittest

from faultsheaves.catchers import taken_out
from faultsheaves.parts import alike, split

from catching import check_taken
from ledgers import empty_ledger, some_ledger, told
from parting import SOME_TESTS, Dice, grown_ledger

NEVER = ("says", "nowhere")
ALWAYS = ("kind", "fault")


class Takes(unittest.TestCase):
    def taken(self, ledger, k, tests):
        """The hands and what is left, looked at whole; and what was there stays as it was."""
        many = ledger.many()
        before = told(ledger)
        given = list(tests)
        with self.subTest(k=k, tests=tests):
            found = taken_out(ledger, k, given)
            self.assertEqual(given, tests)
            self.assertEqual(told(ledger)[:many], before)
            check_taken(self, ledger, many, k, tests, found)
        return found

    def leaves(self, ledger, k):
        return None if k is None else [number for _, number in ledger.leaves(k)]


class TestTakenOut(Takes):
    def test_no_tests(self):
        ledger = some_ledger()
        for k in range(9):
            self.assertEqual(self.taken(ledger, k, []), ([], k))

    def test_none_fits(self):
        ledger = some_ledger()
        for k in range(9):
            self.assertEqual(self.taken(ledger, k, [NEVER]), ([None], k))
            self.assertEqual(self.taken(ledger, k, [NEVER] * 3), ([None] * 3, k))

    def test_all_fit(self):
        ledger = some_ledger()
        for k in [3, 4, 6, 7]:
            self.assertEqual(self.taken(ledger, k, [ALWAYS]), ([k], None))
            self.assertEqual(self.taken(ledger, k, [NEVER, ALWAYS, ALWAYS]), ([None, k, None], None))
            self.assertEqual(self.taken(ledger, k, [("kind", "fault"), ("kind", "io")]), ([k, None], None))

    def test_in_turns(self):
        ledger = some_ledger()
        (first, second), left = self.taken(ledger, 7, [("kind", "disk"), ("kind", "io")])
        self.assertEqual(self.leaves(ledger, first), [0, 0])
        self.assertEqual(self.leaves(ledger, second), [1, 1, 1, 1])
        self.assertEqual(self.leaves(ledger, left), [5, 2])
        (first, second), left = self.taken(ledger, 7, [("kind", "io"), ("kind", "disk")])
        self.assertEqual(self.leaves(ledger, first), [1, 0, 1, 1, 0, 1])
        self.assertIsNone(second)
        self.assertEqual(self.leaves(ledger, left), [5, 2])

    def test_the_last_takes_all_others(self):
        ledger = some_ledger()
        (first, second, third), left = self.taken(ledger, 7, [("kind", "net"), NEVER, ALWAYS])
        self.assertEqual(self.leaves(ledger, first), [1, 1, 1, 1])
        self.assertIsNone(second)
        self.assertEqual(self.leaves(ledger, third), [5, 0, 2, 0])
        self.assertIsNone(left)

    def test_the_same_test_again(self):
        ledger = some_ledger()
        (first, second), left = self.taken(ledger, 3, [("kind", "disk"), ("kind", "disk")])
        self.assertEqual((ledger.members(first), second, ledger.members(left)), ([0], None, [1]))

    def test_each_leaf_by_another_one(self):
        ledger = some_ledger()
        tests = [("says", "gone"), ("says", "full"), ("says", "by nought"), ("says", "")]
        hands, left = self.taken(ledger, 7, tests)
        self.assertEqual([self.leaves(ledger, hand) for hand in hands], [[1] * 4, [0, 0], [5], [2]])
        self.assertIsNone(left)

    def test_like_the_fault_around(self):
        ledger = some_ledger()
        ledger.note(4, "n")
        ledger.blame(7, 2)
        (first, second), left = self.taken(ledger, 7, [("kind", "net"), ("kind", "disk")])
        for number in [first, second, left]:
            self.assertGreaterEqual(number, 9)
            self.assertEqual((ledger.text(number), ledger.cause(number)), ("deep", 2))
        for member in [ledger.members(first)[0], ledger.members(second)[0]]:
            self.assertEqual((ledger.text(member), ledger.notes(member)), ("again", ["n"]))
        for member in [ledger.members(first)[1], ledger.members(second)[1]]:
            self.assertEqual((ledger.notes(member), ledger.cause(member)), (["b", "a", "b"], 5))
            self.assertEqual(ledger.at_work(member), 1)

    def test_members_that_go_whole(self):
        ledger = some_ledger()
        (first, second), left = self.taken(ledger, 7, [("kind", "io"), ("kind", "zero")])
        self.assertEqual(ledger.members(first), [4, 3])
        self.assertEqual(ledger.members(second), [6])
        self.assertEqual(ledger.members(left), [2])

    def test_by_leaves_alone(self):
        ledger = some_ledger()
        for test in [("kind", "sheaf"), ("says", "deep"), ("says", "two"), ("noted", "a"), ("noted", "b")]:
            for k in [3, 4, 6, 7]:
                self.assertEqual(self.taken(ledger, k, [test]), ([None], k))
                self.assertEqual(self.taken(ledger, k, [("not", test)]), ([k], None))

    def test_by_leaves_notes(self):
        ledger = some_ledger()
        (hand, other), left = self.taken(ledger, 3, [("noted", "b"), ("noted", "first")])
        self.assertEqual((hand, ledger.members(other), ledger.members(left)), (None, [0], [1]))

    def test_leaves_at_several_places(self):
        ledger = some_ledger()
        sheaf = ledger.sheaf("", [1, 3, 1, 0, 3, 2])
        (first, second), left = self.taken(ledger, sheaf, [("kind", "net"), ("says", "full")])
        self.assertEqual(self.leaves(ledger, first), [1, 1, 1, 1])
        self.assertEqual(self.leaves(ledger, second), [0, 0, 0])
        self.assertEqual(self.leaves(ledger, left), [2])

    def test_of_all_faults_by_all_tests(self):
        ledger = some_ledger()
        for k in range(9):
            for test in SOME_TESTS:
                self.taken(ledger, k, [test])
                self.taken(ledger, k, [("kind", "net"), test])
                self.taken(ledger, k, [test, ("says", "full"), ALWAYS])

    def test_of_grown_ledgers(self):
        for seed in range(60):
            ledger = grown_ledger(seed + 300)
            dice = Dice(seed)
            for k in range(17):
                self.taken(ledger, k, [dice.one_of(SOME_TESTS) for _ in range(dice.below(7))])

    def test_asked_again_new_ones_again(self):
        ledger = some_ledger()
        found = []
        for _ in range(3):
            hands, left = self.taken(ledger, 7, [("kind", "net"), ("kind", "disk")])
            found += hands + [left]
        self.assertEqual(len(set(found)), 9)

    def test_list_told_is_the_askers_own(self):
        ledger = some_ledger()
        tests = [("kind", "net"), ("kind", "disk")]
        hands, left = taken_out(ledger, 7, tests)
        before = told(ledger)
        kept = list(hands)
        other, _ = taken_out(ledger, 7, tests)
        hands.clear()
        tests.clear()
        self.assertEqual(told(ledger)[:len(before)], before)
        self.assertEqual([self.leaves(ledger, hand) for hand in kept], [[1] * 4, [0, 0]])
        self.assertEqual([self.leaves(ledger, hand) for hand in other], [[1] * 4, [0, 0]])
        self.assertEqual(self.leaves(ledger, left), [5, 2])

    def test_by_what_leaves_have_then(self):
        ledger = some_ledger()
        self.assertEqual(self.taken(ledger, 3, [("noted", "late")]), ([None], 3))
        ledger.note(1, "late")
        (hand,), left = self.taken(ledger, 3, [("noted", "late")])
        self.assertEqual((ledger.members(hand), ledger.members(left)), ([1], [0]))
        ledger.note(3, "more")
        self.assertEqual(ledger.notes(hand), ["b", "a", "b"])
        (hand,), left = self.taken(ledger, 3, [("noted", "late")])
        self.assertEqual((ledger.notes(hand), ledger.notes(left)), (["b", "a", "b", "more"],) * 2)


class TestOfPlainFaults(Takes):
    def test_a_new_sheaf_of_it_alone(self):
        ledger = some_ledger()
        for k in [0, 1, 2, 5, 8]:
            (hand,), left = self.taken(ledger, k, [ALWAYS])
            self.assertGreaterEqual(hand, 9)
            self.assertIsNone(left)
            self.assertEqual((ledger.kind(hand), ledger.text(hand), ledger.members(hand)), ("sheaf", "", [k]))
            self.assertEqual((ledger.notes(hand), ledger.cause(hand), ledger.at_work(hand)), ([], None, None))

    def test_of_one_that_has_all(self):
        ledger = some_ledger()
        ledger.note(1, "n")
        (hand,), left = self.taken(ledger, 1, [("noted", "n")])
        self.assertEqual((ledger.text(hand), ledger.notes(hand)), ("", []))
        self.assertEqual((ledger.cause(hand), ledger.at_work(hand), left), (None, None, None))

    def test_by_the_first_that_fits_alone(self):
        ledger = some_ledger()
        for tests, wanted in [
            ([ALWAYS, ALWAYS], 0), ([NEVER, ALWAYS, ALWAYS], 1), ([("kind", "net"), NEVER, ("kind", "disk")], 2),
        ]:
            hands, left = self.taken(ledger, 0, tests)
            self.assertEqual([at for at, hand in enumerate(hands) if hand is not None], [wanted])
            self.assertIsNone(left)
            self.assertEqual(ledger.members(hands[wanted]), [0])

    def test_none_fits(self):
        ledger = some_ledger()
        for k in [0, 1, 2, 5, 8]:
            self.assertEqual(self.taken(ledger, k, [NEVER, ("kind", "sheaf")]), ([None, None], k))

    def test_asked_again_new_ones_again(self):
        ledger = some_ledger()
        hands = [self.taken(ledger, 0, [ALWAYS])[0][0] for _ in range(3)]
        self.assertEqual(len(set(hands)), 3)

    def test_a_sheaf_of_one_is_itself_the_hand(self):
        ledger = some_ledger()
        self.assertEqual(self.taken(ledger, 6, [("kind", "zero")]), ([6], None))


class TestTheWhole(Takes):
    def test_each_leaf_stands_in_just_one(self):
        for seed in range(30):
            ledger = grown_ledger(seed + 700)
            dice = Dice(seed)
            for k in range(5, 17):
                tests = [dice.one_of(SOME_TESTS) for _ in range(4)]
                leaves = self.leaves(ledger, k)
                hands, left = taken_out(ledger, k, tests)
                parts = [self.leaves(ledger, number) for number in hands + [left] if number is not None]
                self.assertEqual(sorted(sum(parts, [])), sorted(leaves))
                for one, other in itertools.combinations(parts, 2):
                    self.assertFalse(set(one) & set(other))
                self.assertTrue(all(parts))

    def test_one_behind_the_other_as_by_splits(self):
        for seed in range(15):
            ledger = grown_ledger(seed + 40)
            for at, second in enumerate(SOME_TESTS):
                first = SOME_TESTS[(at * 5 + seed) % len(SOME_TESTS)]
                for k in [5, 9, 13, 16]:
                    (hand, other), left = taken_out(ledger, k, [first, second])
                    fit, rest = split(ledger, k, first)
                    both = (None, None) if rest is None else split(ledger, rest, second)
                    self.all_alike(ledger, [hand, other, left], [fit, *both])

    def test_what_is_left_whichever_goes_first(self):
        for seed in range(15):
            ledger = grown_ledger(seed + 90)
            for tests in itertools.permutations([("kind", "net"), ("says", "full"), ("noted", "a")]):
                for k in [6, 10, 14, 16]:
                    _, left = taken_out(ledger, k, list(tests))
                    _, other = taken_out(ledger, k, [("noted", "a"), ("kind", "net"), ("says", "full")])
                    self.all_alike(ledger, [left], [other])

    def all_alike(self, ledger, found, wanted):
        for one, other in zip(found, wanted):
            self.assertEqual(one is None, other is None)
            if one is not None:
                self.assertIs(alike(ledger, one, other), True)


class TestOneEmptyLedger(Takes):
    def test_deep_hands(self):
        ledger = empty_ledger()
        for kind in ["disk", "net", "zero"]:
            ledger.plain(kind, "")
        inner = ledger.sheaf("inner", [0, 1, 2])
        middle = ledger.sheaf("middle", [inner, 0])
        outer = ledger.sheaf("outer", [1, middle, inner])
        (first, second), left = self.taken(ledger, outer, [("kind", "net"), ("kind", "disk")])
        self.assertEqual([way for way, _ in ledger.leaves(first)], [(0,), (1, 0, 0), (2, 0)])
        self.assertEqual([way for way, _ in ledger.leaves(second)], [(0, 0, 0), (0, 1), (1, 0)])
        self.assertEqual([way for way, _ in ledger.leaves(left)], [(0, 0, 0), (1, 0)])


if __name__ == "__main__":
    unittest.main()
