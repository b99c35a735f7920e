"""Rising: what was at work, and how the row of those at work never comes round."""

import unittest

from ledgers import empty_ledger, some_ledger, told


def plain_ones(many):
    """A ledger of so many plain faults."""
    ledger = empty_ledger()
    for _ in range(many):
        ledger.plain("io", "")
    return ledger


def row_of_five():
    """Five faults, each of which rose while the one ahead of it was at work, and two beside them."""
    ledger = plain_ones(7)
    for k in range(1, 5):
        ledger.rise(k, k - 1)
    return ledger


def at_work(ledger):
    """What was at work for each of the faults."""
    return [ledger.at_work(k) for k in range(ledger.many())]


def risen(rows, k, j):
    """What was at work for each, once k rose while j was: the words of the document, row by row."""
    rows = list(rows)
    if j is None or j == k:
        return rows
    row = [j]
    while rows[row[-1]] is not None:
        row.append(rows[row[-1]])
    for number in row:
        if rows[number] == k:
            rows[number] = None
    rows[k] = j
    return rows


class TestRising(unittest.TestCase):
    def test_at_first_none(self):
        self.assertEqual(at_work(plain_ones(3)), [None, None, None])

    def test_what_was_at_work(self):
        ledger = plain_ones(3)
        ledger.rise(1, 0)
        self.assertEqual(at_work(ledger), [None, 0, None])
        ledger.rise(1, 2)
        self.assertEqual(at_work(ledger), [None, 2, None])
        ledger.rise(1, 2)
        self.assertEqual(at_work(ledger), [None, 2, None])

    def test_of_sheaves(self):
        ledger = plain_ones(2)
        sheaf = ledger.sheaf("", [0, 1])
        ledger.rise(sheaf, 0)
        ledger.rise(1, sheaf)
        self.assertEqual(at_work(ledger), [None, 2, 0])

    def test_while_nothing_is_at_work_all_stays(self):
        ledger = row_of_five()
        for k in range(7):
            ledger.rise(k, None)
        self.assertEqual(at_work(ledger), [None, 0, 1, 2, 3, None, None])

    def test_while_itself_is_at_work_all_stays(self):
        ledger = row_of_five()
        for k in range(7):
            ledger.rise(k, k)
        self.assertEqual(at_work(ledger), [None, 0, 1, 2, 3, None, None])

    def test_row_that_does_not_hold_the_rising_one_stays(self):
        ledger = row_of_five()
        ledger.rise(5, 4)
        self.assertEqual(at_work(ledger), [None, 0, 1, 2, 3, 4, None])
        ledger.rise(4, 6)
        self.assertEqual(at_work(ledger), [None, 0, 1, 2, 6, 4, None])
        ledger.rise(3, 1)
        self.assertEqual(at_work(ledger), [None, 0, 1, 1, 6, 4, None])

    def test_once_more_while_the_same_is_at_work(self):
        ledger = row_of_five()
        for k in range(1, 5):
            ledger.rise(k, k - 1)
        self.assertEqual(at_work(ledger), [None, 0, 1, 2, 3, None, None])

    def test_the_row_is_cut_wherever_it_holds_the_rising_one(self):
        wanted = {
            (0, 4): [4, None, 1, 2, 3, None, None],
            (1, 4): [None, 4, None, 2, 3, None, None],
            (2, 4): [None, 0, 4, None, 3, None, None],
            (3, 4): [None, 0, 1, 4, None, None, None],
            (0, 1): [1, None, 1, 2, 3, None, None],
            (0, 2): [2, None, 1, 2, 3, None, None],
            (1, 2): [None, 2, None, 2, 3, None, None],
        }
        for (k, j), rows in wanted.items():
            with self.subTest(k=k, j=j):
                ledger = row_of_five()
                ledger.rise(k, j)
                self.assertEqual(at_work(ledger), rows)

    def test_one_that_is_not_on_the_row_keeps_the_rising_one(self):
        ledger = row_of_five()
        ledger.rise(5, 0)
        ledger.rise(6, 5)
        ledger.rise(0, 4)
        self.assertEqual(at_work(ledger), [4, None, 1, 2, 3, 0, 5])

    def test_two_in_turn(self):
        ledger = plain_ones(2)
        for _ in range(3):
            ledger.rise(0, 1)
            self.assertEqual(at_work(ledger), [1, None])
            ledger.rise(1, 0)
            self.assertEqual(at_work(ledger), [None, 0])

    def test_row_with_a_sheaf_like_another_one(self):
        ledger = plain_ones(2)
        sheaf = ledger.sheaf("", [0])
        ledger.rise(sheaf, 1)
        new = ledger.like(sheaf, [0])
        ledger.rise(1, new)
        self.assertEqual(at_work(ledger), [None, new, 1, None])

    def test_nothing_else_changes(self):
        ledger = some_ledger()
        before = [row[:5] + row[6:] for row in told(ledger)]
        for k in range(9):
            ledger.rise(k, 8 - k)
        self.assertEqual([row[:5] + row[6:] for row in told(ledger)], before)

    def test_causes_are_no_row_of_those_at_work(self):
        ledger = plain_ones(3)
        ledger.blame(1, 0)
        ledger.blame(2, 1)
        ledger.rise(0, 2)
        self.assertEqual(at_work(ledger), [2, None, None])
        self.assertEqual([ledger.cause(k) for k in range(3)], [None, 0, 1])


class TestManyRisings(unittest.TestCase):
    def check_rows_end(self, ledger):
        for k in range(ledger.many()):
            number = k
            for _ in range(ledger.many()):
                number = None if number is None else ledger.at_work(number)
            self.assertIsNone(number)

    def rise_many(self, many, times, step):
        ledger = plain_ones(many)
        rows = [None] * many
        state = step
        for _ in range(times):
            state = (state * 1103515245 + 12345) & 0x7FFFFFFF
            k = (state >> 8) % many
            j = (state >> 16) % (many + 1)
            j = None if j == many else j
            ledger.rise(k, j)
            rows = risen(rows, k, j)
            self.assertEqual(at_work(ledger), rows)
            self.check_rows_end(ledger)

    def test_of_any_to_any(self):
        for many in [2, 3, 4, 7, 12]:
            for step in range(1, 6):
                with self.subTest(many=many, step=step):
                    self.rise_many(many, 200, step)

    def test_all_of_three_risings_of_three(self):
        pairs = [(k, j) for k in range(3) for j in [0, 1, 2, None]]
        for one in pairs:
            for two in pairs:
                for three in pairs:
                    ledger = plain_ones(3)
                    rows = [None] * 3
                    for k, j in [one, two, three]:
                        ledger.rise(k, j)
                        rows = risen(rows, k, j)
                    self.assertEqual(at_work(ledger), rows)
                    self.check_rows_end(ledger)


if __name__ == "__main__":
    unittest.main()
