"""What ledgers refuse, by which class, which goes first, and that it changes nothing."""

import unittest

from faultsheaves.errors import Empty, NoFault, NoKind, NoText, NoWay

from ledgers import NO_KINDS, NO_TEXTS, empty_ledger, no_numbers, some_ledger, told

# Plain faults and sheaves of some_ledger.
PLAIN_ONES = [0, 1, 2, 5, 8]
SHEAVES = [3, 4, 6, 7]


def ledgers():
    """Ledgers with many faults, with one, and without any."""
    one = empty_ledger()
    one.plain("io", "only")
    return [some_ledger(), one, empty_ledger()]


class Refusals(unittest.TestCase):
    def refused(self, error, ledger, method, *given):
        """Refused by just this class, and the ledger stays as it was."""
        before = told(ledger)
        names = ledger.kinds().names()
        with self.subTest(method=method, given=given):
            with self.assertRaises(ValueError) as caught:
                getattr(ledger, method)(*given)
            self.assertIs(caught.exception.__class__, error)
            self.assertEqual(ledger.many(), len(before))
            self.assertEqual(told(ledger), before)
            self.assertEqual(ledger.kinds().names(), names)


class TestNumbers(Refusals):
    ASKED = ["kind", "text", "members", "notes", "cause", "at_work", "leaves"]

    def test_asked_of_one_fault(self):
        for ledger in ledgers():
            for k in no_numbers(ledger) + [None]:
                for method in self.ASKED:
                    self.refused(NoFault, ledger, method, k)

    def test_led(self):
        for ledger in ledgers():
            for k in no_numbers(ledger) + [None]:
                self.refused(NoFault, ledger, "led", k, ())

    def test_note(self):
        for ledger in ledgers():
            for k in no_numbers(ledger) + [None]:
                self.refused(NoFault, ledger, "note", k, "a text")

    def test_blame_and_rise(self):
        for ledger in ledgers():
            for method in ["blame", "rise"]:
                for k in no_numbers(ledger) + [None]:
                    self.refused(NoFault, ledger, method, k, None)
                    self.refused(NoFault, ledger, method, k, k)
                    if ledger.many() > 0:
                        self.refused(NoFault, ledger, method, k, 0)
                for j in no_numbers(ledger):
                    for k in range(ledger.many()):
                        self.refused(NoFault, ledger, method, k, j)

    def test_none_is_allowed_behind(self):
        ledger = some_ledger()
        before = told(ledger)
        ledger.rise(3, None)
        self.assertEqual(told(ledger), before)
        ledger.blame(3, None)
        self.assertIsNone(ledger.cause(3))

    def test_like(self):
        for ledger in ledgers():
            for k in no_numbers(ledger) + [None]:
                self.refused(NoFault, ledger, "like", k, list(range(ledger.many())))

    def test_like_of_a_plain_fault(self):
        ledger = some_ledger()
        for k in PLAIN_ONES:
            self.refused(NoFault, ledger, "like", k, [0])
        for k in SHEAVES:
            self.assertEqual(ledger.twin().like(k, [0]), 9)

    def test_members_at_any_place(self):
        for ledger in ledgers():
            good = list(range(ledger.many()))
            for k in no_numbers(ledger) + [None]:
                for members in [[k], [k] + good, good + [k], good + [k] + good, [k, k]]:
                    before = list(members)
                    self.refused(NoFault, ledger, "sheaf", "a text", members)
                    self.assertEqual(members, before)

    def test_members_of_like_at_any_place(self):
        ledger = some_ledger()
        for k in no_numbers(ledger) + [None]:
            for members in [[k], [k, 0, 1], [0, k, 1], [0, 1, k], [k, k]]:
                before = list(members)
                for sheaf in SHEAVES:
                    self.refused(NoFault, ledger, "like", sheaf, members)
                self.assertEqual(members, before)

    def test_a_sheaf_is_no_member_of_itself(self):
        ledger = some_ledger()
        self.refused(NoFault, ledger, "sheaf", "a text", [9])
        self.refused(NoFault, ledger, "like", 3, [0, 9])


class TestKindsAndTexts(Refusals):
    def test_kinds(self):
        for ledger in ledgers():
            for kind in NO_KINDS + ["sheaf"]:
                self.refused(NoKind, ledger, "plain", kind, "a text")

    def test_texts(self):
        for ledger in ledgers():
            for text in NO_TEXTS:
                for kind in ledger.kinds().names():
                    if kind != "sheaf":
                        self.refused(NoText, ledger, "plain", kind, text)
                for k in range(ledger.many()):
                    self.refused(NoText, ledger, "sheaf", text, [k])
                    self.refused(NoText, ledger, "note", k, text)

    def test_no_members(self):
        for ledger in ledgers():
            self.refused(Empty, ledger, "sheaf", "a text", [])
            self.refused(Empty, ledger, "sheaf", "", [])

    def test_no_members_of_like(self):
        ledger = some_ledger()
        for k in SHEAVES:
            self.refused(Empty, ledger, "like", k, [])


class TestWhichGoesFirst(Refusals):
    def test_plain(self):
        ledger = some_ledger()
        for kind in NO_KINDS + ["sheaf"]:
            for text in NO_TEXTS:
                self.refused(NoKind, ledger, "plain", kind, text)

    def test_sheaf(self):
        for ledger in ledgers():
            for text in NO_TEXTS:
                self.refused(NoText, ledger, "sheaf", text, [])
                self.refused(NoText, ledger, "sheaf", text, [-1])
                self.refused(NoText, ledger, "sheaf", text, [None, ledger.many()])

    def test_like(self):
        for ledger in ledgers():
            for k in no_numbers(ledger) + [None]:
                self.refused(NoFault, ledger, "like", k, [])
                self.refused(NoFault, ledger, "like", k, [k])

    def test_like_of_a_plain_fault(self):
        ledger = some_ledger()
        for k in PLAIN_ONES:
            self.refused(NoFault, ledger, "like", k, [])
            self.refused(NoFault, ledger, "like", k, [-1])

    def test_note(self):
        for ledger in ledgers():
            for k in no_numbers(ledger) + [None]:
                for text in NO_TEXTS:
                    self.refused(NoFault, ledger, "note", k, text)

    def test_blame_and_rise(self):
        for ledger in ledgers():
            for method in ["blame", "rise"]:
                for k in no_numbers(ledger) + [None]:
                    for j in no_numbers(ledger):
                        self.refused(NoFault, ledger, method, k, j)

    def test_led(self):
        for ledger in ledgers():
            for k in no_numbers(ledger) + [None]:
                for way in [None, [], [0], 0, "", (-1,), (True,), (None,), (0,)]:
                    self.refused(NoFault, ledger, "led", k, way)

    def test_led_in_no_way(self):
        ledger = some_ledger()
        for way in [None, [], [0], 0, "", (-1,), (True,), (None,), (9,), (0, 0)]:
            self.refused(NoWay, ledger, "led", 3, way)


class TestBehindRefusals(Refusals):
    def refuse_all(self, ledger):
        for k in no_numbers(ledger):
            self.refused(NoFault, ledger, "note", k, "x")
            self.refused(NoFault, ledger, "blame", 0, k)
            self.refused(NoFault, ledger, "rise", 0, k)
            self.refused(NoFault, ledger, "sheaf", "x", [0, k])
            self.refused(NoFault, ledger, "like", 3, [0, k])
        self.refused(NoKind, ledger, "plain", "sheaf", "x")
        self.refused(NoText, ledger, "plain", "io", None)
        self.refused(NoText, ledger, "sheaf", None, [0])
        self.refused(Empty, ledger, "sheaf", "x", [])
        self.refused(Empty, ledger, "like", 3, [])
        self.refused(NoText, ledger, "note", 0, 5)

    def test_good_calls_are_done_as_ever(self):
        ledger = some_ledger()
        other = some_ledger()
        calls = [
            ("plain", "io", "good"), ("sheaf", "good", [0, 3]), ("like", 3, [8, 8]), ("note", 0, "good"),
            ("blame", 0, 4), ("rise", 0, 3), ("rise", 3, 0), ("blame", 0, None),
        ]
        for method, *given in calls:
            self.refuse_all(ledger)
            self.assertEqual(getattr(ledger, method)(*given), getattr(other, method)(*given))
            self.assertEqual(told(ledger), told(other))
        self.assertEqual(ledger.many(), 12)

    def test_a_ledger_without_faults_begins_at_0(self):
        ledger = empty_ledger()
        self.refused(NoKind, ledger, "plain", "none", "x")
        self.refused(NoText, ledger, "plain", "io", None)
        self.refused(NoFault, ledger, "sheaf", "x", [0])
        self.refused(Empty, ledger, "sheaf", "x", [])
        self.assertEqual(ledger.plain("io", "x"), 0)
        self.assertEqual(ledger.sheaf("x", [0]), 1)

    def test_a_refused_rising_cuts_no_row(self):
        ledger = empty_ledger()
        for _ in range(3):
            ledger.plain("io", "")
        ledger.rise(1, 0)
        ledger.rise(2, 1)
        for j in no_numbers(ledger):
            for k in range(3):
                self.refused(NoFault, ledger, "rise", k, j)
        self.assertEqual([ledger.at_work(k) for k in range(3)], [None, 0, 1])


if __name__ == "__main__":
    unittest.main()
