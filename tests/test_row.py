"""The row of a fault: what it came of, what that came of, and so on."""

import unittest

from faultsheaves.causes import row

from ledgers import empty_ledger, some_ledger, told
from parting import grown_ledger


def plain_ledger(many, causes=(), at_work=()):
    """So many plain faults; causes and at_work are pairs of numbers."""
    ledger = empty_ledger()
    for _ in range(many):
        ledger.plain("io", "")
    for k, j in causes:
        ledger.blame(k, j)
    for k, j in at_work:
        ledger.rise(k, j)
    return ledger


class Rows(unittest.TestCase):
    def row(self, ledger, k, wanted):
        """Told so, and nothing is changed or made."""
        before = told(ledger)
        with self.subTest(k=k):
            found = row(ledger, k)
            self.assertIs(found.__class__, list)
            self.assertEqual(found, wanted)
            self.assertEqual([number.__class__ for number in found], [int] * len(found))
            self.assertEqual(told(ledger), before)


class TestRow(Rows):
    def test_alone(self):
        ledger = plain_ledger(3)
        for k in range(3):
            self.row(ledger, k, [k])

    def test_causes(self):
        ledger = plain_ledger(5, [(4, 2), (2, 3), (3, 0)])
        for k, wanted in enumerate([[0], [1], [2, 3, 0], [3, 0], [4, 2, 3, 0]]):
            self.row(ledger, k, wanted)

    def test_what_was_at_work(self):
        ledger = plain_ledger(5, [], [(4, 2), (2, 3), (3, 0)])
        for k, wanted in enumerate([[0], [1], [2, 3, 0], [3, 0], [4, 2, 3, 0]]):
            self.row(ledger, k, wanted)

    def test_fault_number_0(self):
        self.row(plain_ledger(3, [(1, 0)]), 1, [1, 0])
        self.row(plain_ledger(3, [], [(1, 0)]), 1, [1, 0])
        self.row(plain_ledger(3, [(1, 0)], [(1, 2)]), 1, [1, 0])
        self.row(plain_ledger(3, [(0, 1), (1, 2)]), 0, [0, 1, 2])

    def test_a_cause_goes_ahead_of_what_was_at_work(self):
        ledger = plain_ledger(6, [(1, 2), (3, 4)], [(1, 3), (2, 3), (3, 5)])
        self.row(ledger, 1, [1, 2, 3, 4])
        self.row(ledger, 2, [2, 3, 4])
        self.row(ledger, 3, [3, 4])
        ledger.blame(1, None)
        self.row(ledger, 1, [1, 3, 4])
        ledger.blame(3, None)
        self.row(ledger, 1, [1, 3, 5])

    def test_by_turns(self):
        ledger = plain_ledger(7, [(6, 5), (4, 3), (2, 1)], [(5, 4), (3, 2), (1, 0)])
        self.row(ledger, 6, [6, 5, 4, 3, 2, 1, 0])
        self.row(ledger, 3, [3, 2, 1, 0])

    def test_sheaves(self):
        ledger = some_ledger()
        self.row(ledger, 3, [3, 5])
        self.row(ledger, 4, [4])
        ledger.blame(5, 4)
        ledger.rise(4, 7)
        self.row(ledger, 3, [3, 5, 4, 7])

    def test_members_have_no_bearing(self):
        ledger = plain_ledger(3, [(0, 2), (1, 2)])
        sheaf = ledger.sheaf("", [0, 1])
        self.row(ledger, sheaf, [sheaf])

    def test_of_likes_and_twins(self):
        ledger = some_ledger()
        new = ledger.like(3, [0])
        self.row(ledger, new, [new, 5])
        twin = ledger.twin()
        twin.blame(5, 8)
        self.row(twin, 3, [3, 5, 8])
        self.row(ledger, 3, [3, 5])


class TestRings(Rows):
    def test_its_own_cause(self):
        ledger = plain_ledger(3, [(1, 1)])
        self.row(ledger, 1, [1])
        ledger.rise(1, 2)
        self.row(ledger, 1, [1])

    def test_of_causes(self):
        ledger = plain_ledger(4, [(0, 1), (1, 2), (2, 0)])
        self.row(ledger, 0, [0, 1, 2])
        self.row(ledger, 1, [1, 2, 0])
        self.row(ledger, 2, [2, 0, 1])
        self.row(plain_ledger(2, [(0, 1), (1, 0)]), 0, [0, 1])

    def test_at_a_ring_the_row_ends_though_more_was_at_work(self):
        ledger = plain_ledger(5, [(0, 1), (1, 0)], [(1, 3), (0, 4)])
        self.row(ledger, 0, [0, 1])
        self.row(ledger, 1, [1, 0])

    def test_of_causes_and_what_was_at_work_by_turns(self):
        ledger = plain_ledger(4, [(0, 1), (2, 3)], [(1, 2), (3, 0)])
        for k in range(4):
            self.row(ledger, k, [(k + step) % 4 for step in range(4)])
        two = plain_ledger(2, [(0, 1)], [(1, 0)])
        self.row(two, 0, [0, 1])
        self.row(two, 1, [1, 0])

    def test_that_begin_further_on(self):
        ledger = plain_ledger(6, [(5, 4), (4, 3), (3, 2), (2, 1), (1, 3)])
        self.row(ledger, 5, [5, 4, 3, 2, 1])
        self.row(ledger, 4, [4, 3, 2, 1])
        self.row(ledger, 2, [2, 1, 3])
        own = plain_ledger(3, [(2, 1), (1, 1)], [(1, 0)])
        self.row(own, 2, [2, 1])
        mixed = plain_ledger(5, [(4, 3), (2, 1)], [(3, 2), (1, 2)])
        self.row(mixed, 4, [4, 3, 2, 1])

    def test_of_three_hundred(self):
        for turned in [0, 1, 150, 299]:
            causes = [(k, k + 1) for k in range(299)] + [(299, turned)]
            ledger = plain_ledger(300, causes)
            self.assertEqual(row(ledger, 0), list(range(300)))
            self.assertEqual(row(ledger, 200), list(range(200, 300)) + list(range(turned, 200)))

    def test_rows_of_three_hundred(self):
        by_cause = plain_ledger(300, [(k, k - 1) for k in range(1, 300)])
        by_work = plain_ledger(300, [], [(k, k - 1) for k in range(1, 300)])
        by_turns = plain_ledger(300, [(k, k - 1) for k in range(1, 300, 2)], [(k, k - 1) for k in range(2, 300, 2)])
        for ledger in [by_cause, by_work, by_turns]:
            for k in [0, 1, 150, 299]:
                self.assertEqual(row(ledger, k), list(range(k, -1, -1)))


class TestLater(Rows):
    def test_by_what_they_have_then(self):
        ledger = plain_ledger(4)
        self.row(ledger, 0, [0])
        ledger.rise(0, 1)
        self.row(ledger, 0, [0, 1])
        ledger.blame(1, 2)
        self.row(ledger, 0, [0, 1, 2])
        ledger.blame(0, 3)
        self.row(ledger, 0, [0, 3])
        ledger.blame(0, None)
        self.row(ledger, 0, [0, 1, 2])
        ledger.blame(2, 0)
        self.row(ledger, 0, [0, 1, 2])
        self.row(ledger, 2, [2, 0, 1])

    def test_told_lists_are_the_askers_own(self):
        ledger = plain_ledger(3, [(2, 1), (1, 0)])
        first = row(ledger, 2)
        second = row(ledger, 2)
        before = told(ledger)
        first.append(9)
        first[0] = 7
        self.assertEqual(second, [2, 1, 0])
        self.assertEqual(told(ledger), before)
        self.row(ledger, 2, [2, 1, 0])

    def test_each_stands_there_once(self):
        for seed in range(10):
            ledger = grown_ledger(seed)
            for k in range(17):
                found = row(ledger, k)
                self.assertEqual(found[0], k)
                self.assertEqual(len(set(found)), len(found))
                for one, following in zip(found, found[1:]):
                    self.assertEqual(following, self.came_of(ledger, one))
                self.assertIn(self.came_of(ledger, found[-1]), found + [None])

    def came_of(self, ledger, k):
        return ledger.at_work(k) if ledger.cause(k) is None else ledger.cause(k)


if __name__ == "__main__":
    unittest.main()
