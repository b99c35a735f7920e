"""Ledgers: their faults, notes and causes, sheaves like others, and twins."""

import unittest

from faultsheaves.kinds import Kinds
from faultsheaves.ledger import Ledger

from ledgers import empty_ledger, some_kinds, some_ledger, told, told_of


class TestFaults(unittest.TestCase):
    def test_without_faults(self):
        self.assertEqual(empty_ledger().many(), 0)

    def test_numbers_in_order(self):
        ledger = empty_ledger()
        self.assertEqual(ledger.plain("io", "a"), 0)
        self.assertEqual(ledger.many(), 1)
        self.assertEqual(ledger.sheaf("b", [0]), 1)
        self.assertEqual(ledger.like(1, [0]), 2)
        self.assertEqual(ledger.plain("io", "a"), 3)
        self.assertEqual(ledger.sheaf("b", [0]), 4)
        self.assertEqual(ledger.many(), 5)

    def test_plain(self):
        ledger = empty_ledger()
        for k, kind in enumerate(["fault", "io", "disk", "net", "math", "zero"]):
            self.assertEqual(ledger.plain(kind, f"text {k}"), k)
        for k, kind in enumerate(["fault", "io", "disk", "net", "math", "zero"]):
            self.assertEqual(told_of(ledger, k), (kind, f"text {k}", [], [], None, None, [((), k)]))

    def test_sheaf(self):
        ledger = empty_ledger()
        ledger.plain("io", "a")
        ledger.plain("math", "b")
        self.assertEqual(ledger.sheaf("both", [1, 0]), 2)
        leaves = [((0,), 1), ((1,), 0)]
        self.assertEqual(told_of(ledger, 2), ("sheaf", "both", [1, 0], [], None, None, leaves))

    def test_texts(self):
        ledger = empty_ledger()
        for k, text in enumerate(["", " ", "  two  blanks ", 'a "quote" and a \\', "~!@#$^&*()", "sheaf", "None"]):
            ledger.plain("io", text)
            self.assertEqual(ledger.text(2 * k), text)
            ledger.sheaf(text, [0])
            self.assertEqual(ledger.text(2 * k + 1), text)

    def test_members_of_all_sorts(self):
        ledger = empty_ledger()
        a, b = ledger.plain("io", "a"), ledger.plain("io", "b")
        twice = ledger.sheaf("twice", [a, a])
        mixed = ledger.sheaf("mixed", [b, twice, b, a])
        elsewhere = ledger.sheaf("elsewhere", [twice, b])
        both = ledger.sheaf("both", [elsewhere, mixed, twice])
        self.assertEqual(ledger.members(twice), [a, a])
        self.assertEqual(ledger.members(mixed), [b, twice, b, a])
        self.assertEqual(ledger.members(elsewhere), [twice, b])
        self.assertEqual(ledger.members(both), [elsewhere, mixed, twice])
        for k in [a, b]:
            self.assertEqual(ledger.members(k), [])
        for k in [twice, mixed, elsewhere, both]:
            self.assertEqual(ledger.kind(k), "sheaf")

    def test_faults_alike_are_two(self):
        ledger = empty_ledger()
        one, two = ledger.plain("io", "same"), ledger.plain("io", "same")
        self.assertNotEqual(one, two)
        ledger.note(one, "only here")
        self.assertEqual(ledger.notes(one), ["only here"])
        self.assertEqual(ledger.notes(two), [])

    def test_these_never_change(self):
        ledger = some_ledger()
        before = [(ledger.kind(k), ledger.text(k), ledger.members(k)) for k in range(9)]
        for k in range(9):
            ledger.note(k, "more")
            ledger.blame(k, 0)
            ledger.rise(k, 8)
            ledger.sheaf("over it", [k, k])
        after = [(ledger.kind(k), ledger.text(k), ledger.members(k)) for k in range(9)]
        self.assertEqual(after, before)

    def test_kinds(self):
        kinds = some_kinds()
        ledger = Ledger(kinds)
        for one in [ledger, ledger.twin(), some_ledger()]:
            self.assertIsInstance(one.kinds(), Kinds)
            self.assertEqual(one.kinds().names(), kinds.names())
            self.assertEqual(one.kinds().above("disk"), "io")
        self.assertEqual(Ledger(Kinds([])).kinds().names(), ["fault", "sheaf"])


class TestNotes(unittest.TestCase):
    def test_in_the_order_in_which_they_came(self):
        ledger = some_ledger()
        for k in [2, 7]:
            for text in ["b", "a", "", "b", "c", "b"]:
                ledger.note(k, text)
            self.assertEqual(ledger.notes(k), ["b", "a", "", "b", "c", "b"])

    def test_only_there(self):
        ledger = some_ledger()
        before = told(ledger)
        ledger.note(4, "more")
        after = told(ledger)
        self.assertEqual(ledger.notes(4), ["more"])
        self.assertEqual(ledger.notes(3), ["b", "a", "b"])
        self.assertEqual(after[:4] + after[5:], before[:4] + before[5:])
        self.assertEqual(after[4][:3] + after[4][4:], before[4][:3] + before[4][4:])


class TestCauses(unittest.TestCase):
    def test_set_and_set_anew_and_taken_away(self):
        ledger = some_ledger()
        for k in [0, 4]:
            self.assertIsNone(ledger.cause(k))
            for j in [8, 2, 2, 0, 7, None, None, 1]:
                ledger.blame(k, j)
                self.assertEqual(ledger.cause(k), j)

    def test_of_itself_and_in_a_ring(self):
        ledger = empty_ledger()
        for _ in range(3):
            ledger.plain("io", "")
        ledger.blame(0, 0)
        self.assertEqual(ledger.cause(0), 0)
        for k, j in [(0, 1), (1, 2), (2, 0)]:
            ledger.blame(k, j)
        self.assertEqual([ledger.cause(k) for k in range(3)], [1, 2, 0])

    def test_a_cause_is_not_at_work_nor_the_other_way(self):
        ledger = empty_ledger()
        for _ in range(3):
            ledger.plain("io", "")
        ledger.blame(0, 1)
        self.assertIsNone(ledger.at_work(0))
        ledger.rise(0, 2)
        self.assertEqual((ledger.cause(0), ledger.at_work(0)), (1, 2))
        ledger.blame(0, None)
        self.assertEqual((ledger.cause(0), ledger.at_work(0)), (None, 2))
        ledger.rise(1, 2)
        self.assertIsNone(ledger.cause(1))

    def test_only_there(self):
        ledger = some_ledger()
        before = told(ledger)
        ledger.blame(5, 3)
        ledger.blame(5, None)
        self.assertEqual(told(ledger), before)
        ledger.blame(5, 3)
        self.assertEqual(told(ledger)[:5] + told(ledger)[6:], before[:5] + before[6:])

    def test_the_cause_0_is_a_cause(self):
        ledger = some_ledger()
        ledger.blame(6, 0)
        self.assertEqual(ledger.cause(6), 0)
        self.assertIsNot(ledger.cause(6), False)


class TestLike(unittest.TestCase):
    def test_what_it_has(self):
        ledger = some_ledger()
        before = told(ledger)
        self.assertEqual(ledger.like(3, [8, 4]), 9)
        leaves = [((0,), 8), ((1, 0), 1), ((1, 1, 0), 0), ((1, 1, 1), 1), ((1, 2), 1)]
        self.assertEqual(told_of(ledger, 9), ("sheaf", "two", [8, 4], ["b", "a", "b"], 5, 1, leaves))
        self.assertEqual(told(ledger)[:9], before)

    def test_of_a_sheaf_without_more(self):
        ledger = some_ledger()
        new = ledger.like(6, [2])
        self.assertEqual(told_of(ledger, new), ("sheaf", "", [2], [], None, None, [((0,), 2)]))

    def test_members_may_be_the_same_or_itself(self):
        ledger = some_ledger()
        same = ledger.like(4, [1, 3, 1])
        self.assertEqual(ledger.members(same), [1, 3, 1])
        within = ledger.like(4, [4, 4])
        self.assertEqual(ledger.members(within), [4, 4])
        self.assertEqual(ledger.members(4), [1, 3, 1])

    def test_of_one_that_is_like_another(self):
        ledger = some_ledger()
        one = ledger.like(3, [0])
        ledger.note(one, "c")
        ledger.blame(one, 0)
        ledger.rise(one, 8)
        two = ledger.like(one, [1])
        self.assertEqual(told_of(ledger, two), ("sheaf", "two", [1], ["b", "a", "b", "c"], 0, 8, [((0,), 1)]))

    def test_later_notes_are_its_own(self):
        ledger = some_ledger()
        new = ledger.like(3, [0])
        ledger.note(3, "old")
        ledger.note(new, "new")
        ledger.note(3, "older")
        self.assertEqual(ledger.notes(3), ["b", "a", "b", "old", "older"])
        self.assertEqual(ledger.notes(new), ["b", "a", "b", "new"])

    def test_later_notes_are_its_own_where_there_were_none(self):
        ledger = some_ledger()
        new = ledger.like(6, [0])
        ledger.note(new, "new")
        self.assertEqual(ledger.notes(6), [])
        ledger.note(6, "old")
        self.assertEqual(ledger.notes(new), ["new"])

    def test_later_causes_are_its_own(self):
        ledger = some_ledger()
        new = ledger.like(3, [0])
        ledger.blame(3, 2)
        self.assertEqual((ledger.cause(3), ledger.cause(new)), (2, 5))
        ledger.blame(new, 8)
        self.assertEqual((ledger.cause(3), ledger.cause(new)), (2, 8))
        ledger.blame(new, None)
        self.assertEqual((ledger.cause(3), ledger.cause(new)), (2, None))

    def test_later_risings_are_its_own(self):
        ledger = some_ledger()
        new = ledger.like(3, [0])
        ledger.rise(3, 8)
        self.assertEqual((ledger.at_work(3), ledger.at_work(new)), (8, 1))
        ledger.rise(new, 2)
        self.assertEqual((ledger.at_work(3), ledger.at_work(new)), (8, 2))


class TestTwins(unittest.TestCase):
    CHANGES = [
        lambda ledger: ledger.plain("io", "new"),
        lambda ledger: ledger.sheaf("new", [0, 3]),
        lambda ledger: ledger.like(3, [2]),
        lambda ledger: ledger.note(0, "new"),
        lambda ledger: ledger.note(2, "new"),
        lambda ledger: ledger.note(3, "new"),
        lambda ledger: ledger.blame(3, 0),
        lambda ledger: ledger.blame(3, None),
        lambda ledger: ledger.blame(4, 2),
        lambda ledger: ledger.rise(2, 8),
        lambda ledger: ledger.rise(0, 3),
    ]

    def test_just_the_same(self):
        for ledger in [empty_ledger(), some_ledger()]:
            twin = ledger.twin()
            self.assertIsInstance(twin, Ledger)
            self.assertIsNot(twin, ledger)
            self.assertEqual(twin.many(), ledger.many())
            self.assertEqual(told(twin), told(ledger))
            self.assertEqual(twin.kinds().names(), ledger.kinds().names())

    def test_each_change_shows_at_one_only(self):
        for at, change in enumerate(self.CHANGES):
            with self.subTest(at=at):
                ledger = some_ledger()
                twin = ledger.twin()
                twin_of_twin = twin.twin()
                before = told(ledger)
                change(twin)
                self.assertNotEqual(told(twin), before)
                self.assertEqual(told(ledger), before)
                self.assertEqual(told(twin_of_twin), before)
                after = told(twin)
                change(ledger)
                self.assertEqual(told(ledger), after)
                self.assertEqual(told(twin), after)
                self.assertEqual(told(twin_of_twin), before)
                change(twin_of_twin)
                self.assertEqual(told(twin_of_twin), after)
                self.assertEqual(told(twin), after)
                self.assertEqual(told(ledger), after)

    def test_all_changes_one_behind_another(self):
        ledger = some_ledger()
        twins = []
        looks = []
        for change in self.CHANGES:
            twins.append(ledger.twin())
            looks.append(told(ledger))
            change(ledger)
        self.assertEqual([told(twin) for twin in twins], looks)

    def test_numbers_go_on(self):
        ledger = some_ledger()
        twin = ledger.twin()
        self.assertEqual(ledger.plain("io", "here"), 9)
        self.assertEqual(twin.plain("net", "there"), 9)
        self.assertEqual(twin.plain("net", "there"), 10)
        self.assertEqual((ledger.many(), twin.many()), (10, 11))
        self.assertEqual((ledger.text(9), twin.text(9)), ("here", "there"))

    def test_one_number_is_another_fault_in_each(self):
        ledger = some_ledger()
        twin = ledger.twin()
        twin_of_twin = twin.twin()
        ledger.sheaf("sheaf", [0, 1])
        twin.plain("net", "plain")
        twin_of_twin.like(3, [2])
        ledger.note(9, "here")
        twin.blame(9, 2)
        twin_of_twin.rise(9, 8)
        sheaf = ("sheaf", "sheaf", [0, 1], ["here"], None, None, [((0,), 0), ((1,), 1)])
        plain = ("net", "plain", [], [], 2, None, [((), 9)])
        like = ("sheaf", "two", [2], ["b", "a", "b"], 5, 8, [((0,), 2)])
        self.assertEqual([told_of(one, 9) for one in [ledger, twin, twin_of_twin]], [sheaf, plain, like])
        self.assertEqual([one.many() for one in [ledger, twin, twin_of_twin]], [10, 10, 10])


class TestListsChangedBehind(unittest.TestCase):
    def test_members_handed_in(self):
        ledger = some_ledger()
        members = [0, 1]
        one = ledger.sheaf("one", members)
        two = ledger.like(3, members)
        self.assertEqual(members, [0, 1])
        before = told(ledger)
        members.append(2)
        members[0] = 8
        self.assertEqual(told(ledger), before)
        members.clear()
        self.assertEqual(told(ledger), before)
        self.assertEqual((ledger.members(one), ledger.members(two)), ([0, 1], [0, 1]))

    def test_lists_told(self):
        ledger = some_ledger()
        ledger.like(3, [0])
        before = told(ledger)
        for change in [lambda rows: rows.clear(), lambda rows: rows.append(0), lambda rows: rows.insert(0, 1)]:
            for k in range(ledger.many()):
                for tell in [ledger.members, ledger.notes, ledger.leaves]:
                    change(tell(k))
                    self.assertEqual(told(ledger), before)

    def test_notes_told_ahead_stay(self):
        ledger = some_ledger()
        notes = ledger.notes(3)
        ledger.note(3, "late")
        self.assertEqual(notes, ["b", "a", "b"])
        self.assertEqual(ledger.notes(3), ["b", "a", "b", "late"])

    def test_lists_told_of_a_twin(self):
        ledger = some_ledger()
        twin = ledger.twin()
        before = told(ledger)
        for k in range(twin.many()):
            for tell in [twin.members, twin.notes, twin.leaves]:
                tell(k).append(0)
        self.assertEqual(told(ledger), before)
        self.assertEqual(told(twin), before)

    def test_kinds_told(self):
        ledger = some_ledger()
        names = ledger.kinds().names()
        names.append("late")
        self.assertEqual(ledger.kinds().names(), names[:-1])


if __name__ == "__main__":
    unittest.main()
