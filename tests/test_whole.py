"""The whole promise, over drawn programs and their runs."""

import unittest

from faultsheaves.causes import row
from faultsheaves.house import House
from faultsheaves.parts import alike, split
from faultsheaves.programs import is_program
from faultsheaves.roads import road

from drawn import drawn, names_of
from houses import number_of
from ledgers import some_kinds
from oracle import Match
from parting import SOME_TESTS

ENDS = ["taken", "off", "out"]


def houses(seeds, strict=False):
    """For each of these seeds a house that ran the drawn program's bodies, and the oracle that did."""
    for seed in seeds:
        found = drawn(seed, strict)
        if found is not None:
            program, oracle = found
            house = House(some_kinds(), program)
            for name in names_of(program):
                house.run(name)
            yield seed, house, oracle


def plain_ones(ledger):
    return [k for k in range(ledger.many()) if ledger.kind(k) != "sheaf"]


class TestRuns(unittest.TestCase):
    def test_as_by_the_words_of_the_document(self):
        many = 0
        for seed, house, oracle in houses(range(1500)):
            with self.subTest(seed=seed):
                Match(self, house, oracle)
            many += 1
        self.assertGreater(many, 1000)

    def test_drawn_ones_are_programs(self):
        for seed in range(200):
            for strict in [False, True]:
                found = drawn(seed, strict)
                if found is not None:
                    self.assertIs(is_program(some_kinds(), found[0]), True)

    def test_outcomes_are_those_that_events_tell(self):
        for seed in range(200):
            found = drawn(seed)
            if found is not None:
                house = House(some_kinds(), found[0])
                outcomes = [house.run(name) for name in names_of(found[0])]
                self.assertEqual([event[1] for event in house.events() if event[0] == "end"], outcomes)


class TestRisings(unittest.TestCase):
    def test_each_ends_in_just_one_way(self):
        """Where each leaf is on its way once at a time, its road goes from a rising to an end, and so on."""
        longest = 0
        for seed, house, _ in houses(range(2000, 2800), strict=True):
            ledger, events = house.ledger(), house.events()
            for k in plain_ones(ledger):
                with self.subTest(seed=seed, k=k):
                    marks = [mark[0] for mark in road(ledger, events, k)]
                    self.check_marks(marks)
                    longest = max(longest, marks.count("again"))
        self.assertGreater(longest, 1)

    def check_marks(self, marks):
        self.assertEqual(marks.count("rose"), 1)
        self.assertEqual(marks[0], "rose")
        on_way = False
        for mark in marks:
            # A rising where it is not on its way, all else where it is.
            self.assertEqual(on_way, mark not in ["rose", "again"])
            on_way = mark not in ENDS
        self.assertFalse(on_way)
        self.assertIn(marks.count("out"), [0, 1])
        self.assertNotIn("out", marks[:-1])

    def test_each_ends_in_some_way(self):
        """Also where it is on its way several times: behind the last rising there is an end."""
        for seed, house, _ in houses(range(2800, 3400)):
            ledger, events = house.ledger(), house.events()
            for k in plain_ones(ledger):
                with self.subTest(seed=seed, k=k):
                    marks = [mark[0] for mark in road(ledger, events, k)]
                    ends = [at for at, mark in enumerate(marks) if mark in ENDS]
                    starts = [at for at, mark in enumerate(marks) if mark in ["rose", "again"]]
                    self.assertGreater(ends[-1], starts[-1])
                    self.assertLessEqual(len(ends), len(starts))

    def test_what_comes_out_at_the_end(self):
        for seed, house, _ in houses(range(3400, 3800)):
            ledger, events = house.ledger(), house.events()
            out = [leaf for event in events if event[0] == "end" and number_of(event) is not None
                   for _, leaf in ledger.leaves(number_of(event))]
            with self.subTest(seed=seed):
                for k in plain_ones(ledger):
                    self.assertEqual(road(ledger, events, k)[-1] == ("out",), k in out)

    def test_a_fault_raised_again_is_the_same_its_road_longer(self):
        many = 0
        for seed, house, _ in houses(range(3800, 4200)):
            ledger, events = house.ledger(), house.events()
            for at, event in enumerate(events):
                if event[0] == "again":
                    many += 1
                    for _, k in ledger.leaves(event[1]):
                        ahead = road(ledger, events[:at], k)
                        self.assertEqual(road(ledger, events[:at + 1], k), ahead + [("again", event[1])])
                        self.assertGreater(len(ahead), 1)
        self.assertGreater(many, 50)


class TestRooms(unittest.TestCase):
    def test_a_leaving_once_for_each_entering(self):
        for seed, house, _ in houses(range(4200, 4600)):
            with self.subTest(seed=seed):
                open_rooms = []
                for event in house.events():
                    if event[0] == "enter":
                        open_rooms.append([event[1], "body"])
                    if event[0] in ("leaving", "leave", "take", "come", "off"):
                        name, now = open_rooms[-1]
                        self.assertEqual(event[1], name)
                        self.assertEqual(now, "leaving" if event[0] in ("leave", "off") else "body")
                    if event[0] == "leaving":
                        open_rooms[-1][1] = "leaving"
                    if event[0] == "leave":
                        open_rooms.pop()
                    if event[0] in ("run", "end"):
                        self.assertEqual(open_rooms, [])

    def test_what_it_raises_or_answers_goes_before_what_was_on_its_way(self):
        many = 0
        for seed, house, _ in houses(range(4600, 5000)):
            events = house.events()
            for at, event in enumerate(events):
                if event[0] == "off":
                    many += 1
                    leave = events[at + 1]
                    self.assertEqual(leave[:2], ("leave", event[1]))
                    self.assertNotEqual(leave[2], ("rose", event[2]))
                    self.assertIn(leave[2][0], ["rose", "answer"])
        self.assertGreater(many, 50)


class TestRows(unittest.TestCase):
    def test_no_row_comes_round(self):
        longest = 0
        for seed, house, _ in houses(range(5000, 5600)):
            ledger = house.ledger()
            for k in range(ledger.many()):
                with self.subTest(seed=seed, k=k):
                    along = [k]
                    while ledger.at_work(along[-1]) is not None:
                        self.assertNotIn(ledger.at_work(along[-1]), along)
                        along.append(ledger.at_work(along[-1]))
                    longest = max(longest, len(along))
                    found = row(ledger, k)
                    self.assertEqual(len(set(found)), len(found))
        self.assertGreater(longest, 3)


class TestParts(unittest.TestCase):
    def test_by_two_tests_in_either_order(self):
        for seed, house, _ in houses(range(5600, 5800)):
            ledger = house.ledger()
            first, second = SOME_TESTS[seed % len(SOME_TESTS)], SOME_TESTS[seed * 7 % len(SOME_TESTS)]
            for k in range(ledger.many()):
                with self.subTest(seed=seed, k=k):
                    ahead = [self.parted(ledger, number, second) for number in split(ledger, k, first)]
                    behind = [self.parted(ledger, number, first) for number in split(ledger, k, second)]
                    for at in [0, 1]:
                        for by in [0, 1]:
                            self.same(ledger, ahead[at][by], behind[by][at])

    def parted(self, ledger, number, test):
        return (None, None) if number is None else split(ledger, number, test)

    def same(self, ledger, one, other):
        self.assertEqual(one is None, other is None)
        if one is not None:
            self.assertIs(alike(ledger, one, other), True)

    def test_by_the_house(self):
        for seed, house, _ in houses(range(5800, 5950)):
            test = SOME_TESTS[seed % len(SOME_TESTS)]
            ledger = house.ledger()
            for k in range(ledger.many()):
                fit, left = house.split(k, test)
                now = house.ledger()
                for number, wanted in zip([fit, left], split(now, k, test)):
                    self.same(now, number, wanted)


if __name__ == "__main__":
    unittest.main()
