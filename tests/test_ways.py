"""Ways and leaves: what a fault's leaves are, and where a way leads."""

import unittest

from faultsheaves.errors import NoWay

from ledgers import empty_ledger, some_ledger, told

# Things of all sorts that are no whole number.
NO_WHOLES = [None, True, False, "", "0", "1", [], [0], (), (0,), {}, {0: 0}]


def deep_ledger():
    """Twelve sheaves within one another, each with a plain fault ahead of and behind the one within."""
    ledger = empty_ledger()
    ledger.plain("io", "first")
    ledger.plain("io", "last")
    inner = ledger.plain("io", "inner")
    for level in range(12):
        inner = ledger.sheaf(f"level {level}", [0, inner, 1])
    return ledger


class TestLeaves(unittest.TestCase):
    def test_of_a_plain_fault(self):
        ledger = some_ledger()
        for k in [0, 1, 2, 5, 8]:
            self.assertEqual(ledger.leaves(k), [((), k)])

    def test_of_a_sheaf(self):
        ledger = some_ledger()
        self.assertEqual(ledger.leaves(3), [((0,), 0), ((1,), 1)])
        self.assertEqual(ledger.leaves(6), [((0,), 5)])

    def test_of_one_fault_at_several_places(self):
        ledger = some_ledger()
        self.assertEqual(ledger.leaves(4), [((0,), 1), ((1, 0), 0), ((1, 1), 1), ((2,), 1)])
        twice = ledger.sheaf("twice", [3, 3])
        self.assertEqual(ledger.leaves(twice), [((0, 0), 0), ((0, 1), 1), ((1, 0), 0), ((1, 1), 1)])

    def test_of_sheaves_in_sheaves(self):
        wanted = [
            ((0, 0), 5), ((1, 0), 1), ((1, 1, 0), 0), ((1, 1, 1), 1), ((1, 2), 1), ((2,), 2), ((3, 0), 0), ((3, 1), 1),
        ]
        self.assertEqual(some_ledger().leaves(7), wanted)

    def test_in_order_by_members_not_by_numbers(self):
        ledger = some_ledger()
        sheaf = ledger.sheaf("back", [8, 5, 2, 1, 0])
        self.assertEqual([number for _, number in ledger.leaves(sheaf)], [8, 5, 2, 1, 0])

    def test_more_than_ten_members(self):
        ledger = empty_ledger()
        for _ in range(12):
            ledger.plain("io", "")
        sheaf = ledger.sheaf("", list(range(12)))
        self.assertEqual(ledger.leaves(sheaf), [((k,), k) for k in range(12)])

    def test_twelve_deep(self):
        ledger = deep_ledger()
        ahead = [((1,) * level + (0,), 0) for level in range(12)]
        behind = [((1,) * level + (2,), 1) for level in reversed(range(12))]
        self.assertEqual(ledger.leaves(14), ahead + [((1,) * 12, 2)] + behind)

    def test_kinds_of_values(self):
        for way, number in some_ledger().leaves(7):
            self.assertIsInstance(way, tuple)
            self.assertIs(number.__class__, int)
            for place in way:
                self.assertIs(place.__class__, int)


class TestLed(unittest.TestCase):
    def test_by_no_places(self):
        ledger = some_ledger()
        for k in range(9):
            self.assertEqual(ledger.led(k, ()), k)

    def test_along_each_way_to_a_leaf(self):
        for ledger in [some_ledger(), deep_ledger()]:
            for k in range(ledger.many()):
                for way, number in ledger.leaves(k):
                    self.assertEqual(ledger.led(k, way), number)

    def test_to_sheaves(self):
        ledger = some_ledger()
        self.assertEqual(ledger.led(7, (0,)), 6)
        self.assertEqual(ledger.led(7, (1,)), 4)
        self.assertEqual(ledger.led(7, (1, 1)), 3)
        self.assertEqual(ledger.led(7, (3,)), 3)
        self.assertEqual(ledger.led(4, (1,)), 3)

    def test_twelve_deep(self):
        ledger = deep_ledger()
        for depth in range(12):
            self.assertEqual(ledger.led(14, (1,) * depth), 14 - depth)
        self.assertEqual(ledger.led(14, (1,) * 12), 2)

    def test_place_that_is_not_there(self):
        ledger = some_ledger()
        for place in [2, 3, 100, 10 ** 30, -1, -2, -3, -(10 ** 30)]:
            with self.subTest(place=place):
                self.assertRaises(NoWay, ledger.led, 3, (place,))
                self.assertRaises(NoWay, ledger.led, 4, (1, place))
                self.assertRaises(NoWay, ledger.led, 4, (place + 10 ** 40, 0))
                self.assertRaises(NoWay, ledger.led, 0, (place,))
        for place in [4, -1]:
            self.assertRaises(NoWay, ledger.led, 7, (place,))
            self.assertRaises(NoWay, ledger.led, 7, (place, 0))

    def test_one_place_too_many(self):
        for ledger in [some_ledger(), deep_ledger()]:
            for k in range(ledger.many()):
                for way, _ in ledger.leaves(k):
                    for place in [0, 1, -1]:
                        self.assertRaises(NoWay, ledger.led, k, way + (place,))
                    self.assertRaises(NoWay, ledger.led, k, way + (0, 0))

    def test_truths_are_no_places(self):
        ledger = some_ledger()
        self.assertEqual((ledger.led(3, (0,)), ledger.led(3, (1,))), (0, 1))
        for way in [(True,), (False,)]:
            self.assertRaises(NoWay, ledger.led, 3, way)
        for way in [(True, 1), (1, True), (1, False), (False, 0), (True, True)]:
            self.assertRaises(NoWay, ledger.led, 7, way)

    def test_what_is_no_whole_number_is_no_place(self):
        ledger = some_ledger()
        for place in NO_WHOLES:
            with self.subTest(place=place):
                self.assertRaises(NoWay, ledger.led, 3, (place,))
                self.assertRaises(NoWay, ledger.led, 7, (1, place))
                self.assertRaises(NoWay, ledger.led, 7, (place, 1))
                self.assertRaises(NoWay, ledger.led, 0, (place,))

    def test_what_is_no_tuple_is_no_way(self):
        ledger = some_ledger()
        for way in [None, True, False, 0, 1, "", "0", [], [0], [0, 1], {}, {0: 0}]:
            for k in [0, 3, 7]:
                with self.subTest(way=way, k=k):
                    self.assertRaises(NoWay, ledger.led, k, way)

    def test_looking_changes_nothing(self):
        ledger = some_ledger()
        before = told(ledger)
        for way in [(), (0,), (9,), [0], None]:
            try:
                ledger.led(3, way)
            except NoWay:
                pass
        self.assertEqual(told(ledger), before)


if __name__ == "__main__":
    unittest.main()
