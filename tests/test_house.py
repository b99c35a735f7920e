"""Houses: one ledger for all runs, what is told stays as told, what was handed in has no bearing later, and refusals."""

import copy
import unittest

from faultsheaves.errors import NoBody, NoFault, NoProgram, NoTest
from faultsheaves.house import House
from faultsheaves.kinds import Kinds
from faultsheaves.parts import alike

from houses import ALWAYS, WENT, HouseCase, Seen, ran, room, rose
from ledgers import no_numbers, some_kinds, told
from no_tests import GOOD, NO_TESTS
from some_programs import NO_LISTS, NO_NAMES, NO_STEPS, PLACES, big_program, put

NET = ("kind", "net")
TWO = ("gather", "two", [[("raise", "disk", "1")], [("raise", "net", "2")]])


def of_all_sorts():
    """A program in which lists stand at all sorts of places, and all of it is done."""
    catchers = [(NET, [("note", "n"), ("gather", "h", [[("say", "h")]])]), (ALWAYS, [("again",)])]
    inner = room("in", [TWO], "out", catchers, [("say", "no")], [("say", "l")])
    outer = room("out", [inner], "whole", [(ALWAYS, [("note", "w"), ("raiseof", "zero", "z")])], [("say", "no")], [("say", "k")])
    top = room("top", [("say", "t")], "out", [], [("say", "o")])
    # A copy at all depths, since some tests change it.
    return copy.deepcopy([("sub", [("say", "s")]), ("main", [("call", "sub"), top, outer])])


def lists_within(thing):
    """All lists that stand in this, at any depth, it itself too."""
    found = [thing] if isinstance(thing, list) else []
    if isinstance(thing, (list, tuple)):
        for inner in thing:
            found += lists_within(inner)
    return found


class Houses(HouseCase):
    def did_the_same(self, one, other):
        """Both houses told the same, whatever numbers their faults have."""
        first, second = Seen(one), Seen(other)
        self.assertEqual(first.events, second.events)
        for letter in first.numbers:
            self.assertEqual(first.of(letter), second.of(letter))
            self.assertEqual(first.shape(first.numbers[letter]), second.shape(second.numbers[letter]))


class TestOneLedger(Houses):
    def test_for_all_runs(self):
        house = House(some_kinds(), [("one", [("raise", "io", "x")]), ("two", [TWO])])
        numbers = []
        for name in ["one", "two", "one", "two", "two"]:
            word, number = house.run(name)
            self.assertEqual(word, "rose")
            self.assertTrue(all(number > other for other in numbers))
            numbers.append(number)
        ledger = house.ledger()
        self.assertEqual([ledger.kind(number) for number in numbers], ["io", "sheaf", "io", "sheaf", "sheaf"])
        self.assertEqual([len(ledger.leaves(number)) for number in numbers], [1, 2, 1, 2, 2])
        self.assertEqual(len({leaf for number in numbers for _, leaf in ledger.leaves(number)}), 8)

    def test_without_runs(self):
        self.assertEqual(House(some_kinds(), []).ledger().many(), 0)
        self.assertEqual(House(some_kinds(), of_all_sorts()).ledger().many(), 0)

    def test_of_the_kinds(self):
        kinds = Kinds([("heat", "fault")])
        house = House(kinds, [("a", [("raise", "heat", "x")])])
        self.assertEqual(house.ledger().kinds().names(), ["fault", "sheaf", "heat"])
        _, number = house.run("a")
        self.assertEqual(house.ledger().kind(number), "heat")

    def test_a_twin(self):
        house = House(some_kinds(), of_all_sorts())
        house.run("main")
        first = house.ledger()
        before = told(first)
        other = house.ledger()
        other.note(0, "late")
        other.plain("io", "late")
        other.blame(0, 0)
        self.assertEqual(told(first), before)
        self.assertEqual(told(house.ledger()), before)
        first.rise(0, 1)
        house.run("main")
        self.assertEqual(told(house.ledger())[:len(before)], before)
        self.assertGreater(house.ledger().many(), len(before))
        self.assertEqual(first.many(), len(before))

    def test_changed_twins_have_no_bearing_on_runs(self):
        house = House(some_kinds(), of_all_sorts())
        other = House(some_kinds(), of_all_sorts())
        for _ in range(3):
            twin = house.ledger()
            for k in range(twin.many()):
                twin.note(k, "n")
                twin.rise(k, 0)
            for _ in range(5):
                twin.plain("io", "x")
            house.run("main")
            other.run("main")
        self.did_the_same(house, other)


class TestEvents(HouseCase):
    def test_told_anew_each_time(self):
        house = House(some_kinds(), of_all_sorts())
        self.assertEqual(house.events(), [])
        house.run("sub")
        first = house.events()
        self.assertEqual(first, ran("sub", ("say", "s"), WENT))
        first.clear()
        first.append(("say", "late"))
        self.assertEqual(house.events(), ran("sub", ("say", "s"), WENT))
        second = house.events()
        house.run("sub")
        self.assertEqual(second, ran("sub", ("say", "s"), WENT))
        self.assertEqual(house.events(), ran("sub", ("say", "s"), WENT) * 2)

    def test_of_all_runs_in_order(self):
        house = House(some_kinds(), of_all_sorts())
        told_so_far = []
        for name in ["main", "sub", "main", "main", "sub"]:
            house.run(name)
            events = house.events()
            self.assertEqual(events[:len(told_so_far)], told_so_far)
            self.assertEqual(events[len(told_so_far)], ("run", name))
            self.assertEqual(events[-1][0], "end")
            told_so_far = events

    def test_of_all_sorts(self):
        seen = self.seen(of_all_sorts())
        wanted = ran(
            "main", ("say", "s"), ("enter", "top"), ("say", "t"), ("say", "o"), ("leaving", "top"), ("leave", "top", WENT),
            ("enter", "out"), ("enter", "in"), ("rise", "a"), ("rise", "b"), ("rise", "c"), ("take", "in", 0, "d"), ("say", "h"),
            ("take", "in", 1, "e"), ("again", "e"), ("come", "in", "f"), ("leaving", "in"), ("say", "l"), ("leave", "in", rose("f")),
            ("take", "out", 0, "f"), ("rise", "g"), ("leaving", "out"), ("say", "k"), ("leave", "out", rose("g")), rose("g"),
        )
        self.assertEqual(seen.events, wanted)
        self.are(seen, a=("disk", "1", [], None, None), b=("net", "2", ["n"], None, None), c=("sheaf", "two", [], None, None),
                 f=("sheaf", "two", ["w"], None, None), g=("zero", "z", [], "f", "f"))
        self.shapes(seen, d=["two", "b"], e=["two", "a"], f=["two", "a"])


class TestWhatWasHandedIn(HouseCase):
    def test_stays(self):
        for program in [of_all_sorts(), big_program(), [], put([("again",)], [PLACES[8], PLACES[0], PLACES[3]])]:
            before = copy.deepcopy(program)
            house = House(some_kinds(), program)
            self.assertEqual(program, before)
            for name, _ in before:
                house.run(name)
            for k in range(house.ledger().many()):
                house.split(k, GOOD)
            self.assertEqual(program, before)

    def test_changed_behind_at_any_depth(self):
        many = len(lists_within(of_all_sorts()))
        self.assertGreater(many, 15)
        wanted = self.seen(of_all_sorts()).events
        for at in range(many):
            for change in [lambda part: part.clear(), lambda part: part.append(("say", "late")),
                           lambda part: part.insert(0, ("raise", "io", "late"))]:
                program = of_all_sorts()
                house = House(some_kinds(), program)
                change(lists_within(program)[at])
                house.run("main")
                self.assertEqual(Seen(house).events, wanted)

    def test_changed_between_runs(self):
        program = of_all_sorts()
        house = House(some_kinds(), program)
        house.run("sub")
        for part in lists_within(program):
            part.clear()
        house.run("sub")
        self.assertEqual(house.events(), ran("sub", ("say", "s"), WENT) * 2)
        self.assertRaises(NoBody, house.run, "late")

    def test_kinds_told_later_to_the_list(self):
        pairs = [("io", "fault")]
        kinds = Kinds(pairs)
        house = House(kinds, [("a", [room("r", [("raise", "io", "x")], "whole", [(("kind", "io"), [("say", "y")])])])])
        pairs[0] = ("net", "fault")
        self.assertEqual(house.run("a"), WENT)


class TestTwoHouses(HouseCase):
    def test_of_one_program_and_kinds(self):
        kinds, program = some_kinds(), of_all_sorts()
        one, other = House(kinds, program), House(kinds, program)
        one.run("main")
        one.run("sub")
        self.assertEqual((other.events(), other.ledger().many()), ([], 0))
        other.run("sub")
        self.assertEqual(other.events(), ran("sub", ("say", "s"), WENT))
        self.assertEqual(other.ledger().many(), 0)
        other.run("main")
        self.assertEqual(Seen(other).events[3:], Seen(one).events[:-3])
        other.run("sub")
        one.run("sub")
        self.assertEqual(one.events()[-3:], other.events()[-3:])

    def test_one_splits(self):
        one, other = [House(some_kinds(), [("a", [TWO])]) for _ in range(2)]
        _, number = one.run("a")
        other.run("a")
        before = told(other.ledger())
        one.split(number, NET)
        self.assertEqual(told(other.ledger()), before)


class TestSplit(HouseCase):
    def test_in_the_houses_own_ledger(self):
        house = House(some_kinds(), [("a", [TWO])])
        _, number = house.run("a")
        before = told(house.ledger())
        events = house.events()
        both = house.split(number, NET)
        self.assertIs(both.__class__, tuple)
        fit, left = both
        ledger = house.ledger()
        self.assertEqual(told(ledger)[:len(before)], before)
        self.assertTrue(fit >= len(before) and left >= len(before) and fit != left)
        self.assertEqual([[ledger.text(leaf) for _, leaf in ledger.leaves(k)] for k in [fit, left]], [["2"], ["1"]])
        self.assertEqual([ledger.text(fit), ledger.text(left)], ["two", "two"])
        self.assertEqual(house.events(), events)
        self.assertEqual(house.split(fit, NET), (fit, None))
        self.assertEqual(house.split(left, NET), (None, left))

    def test_all_and_none_and_plain_faults(self):
        house = House(some_kinds(), [("a", [TWO])])
        _, number = house.run("a")
        self.assertEqual(house.split(number, ALWAYS), (number, None))
        self.assertEqual(house.split(number, ("says", "two")), (None, number))
        leaves = [leaf for _, leaf in house.ledger().leaves(number)]
        self.assertEqual([house.split(leaf, NET) for leaf in leaves], [(None, leaves[0]), (leaves[1], None)])

    def test_asked_again_new_ones_again(self):
        house = House(some_kinds(), [("a", [TWO])])
        _, number = house.run("a")
        found = [house.split(number, NET) for _ in range(3)]
        self.assertEqual(len({k for both in found for k in both}), 6)
        ledger = house.ledger()
        for fit, left in found[1:]:
            self.assertIs(alike(ledger, fit, found[0][0]) and alike(ledger, left, found[0][1]), True)

    def test_later_runs_go_on_behind(self):
        house = House(some_kinds(), [("a", [TWO])])
        _, number = house.run("a")
        fit, left = house.split(number, NET)
        before = told(house.ledger())
        _, other = house.run("a")
        self.assertGreater(other, max(fit, left))
        self.assertEqual(told(house.ledger())[:len(before)], before)
        self.assertEqual([event[0] for event in house.events()], ["run", "rise", "rise", "rise", "end"] * 2)


class TestRefusals(Houses):
    def refused(self, error, function, *given):
        with self.subTest(given=given):
            with self.assertRaises(ValueError) as caught:
                function(*given)
            self.assertIs(caught.exception.__class__, error)

    def test_no_program(self):
        programs = NO_LISTS + [[thing] for thing in NO_LISTS] + [[(name, [])] for name in NO_NAMES]
        programs += [[("a", [step])] for step in NO_STEPS]
        programs += [
            [("a", []), ("a", [])], [("a", [("call", "a")])], [("a", [("again",)])], [("a", [("raise", "sheaf", "x")])],
            [("a", [room("r", []), room("r", [])])], [("a", [("gather", "g", [[("answer", 1)]])])], [("a", [("answer", True)])],
        ]
        for program in programs:
            self.refused(NoProgram, House, some_kinds(), program)
        for place, _, _ in PLACES:
            self.refused(NoProgram, House, some_kinds(), [("a", [place([("say", None)], "r")])])

    def test_no_program_by_these_kinds(self):
        self.refused(NoProgram, House, Kinds([]), of_all_sorts())
        self.refused(NoProgram, House, Kinds([("disk", "fault"), ("net", "fault")]), of_all_sorts())
        House(Kinds([("disk", "fault"), ("net", "fault"), ("zero", "fault")]), of_all_sorts()).run("main")

    def test_no_body(self):
        house = House(some_kinds(), of_all_sorts())
        house.run("main")
        events, before = house.events(), told(house.ledger())
        for name in NO_NAMES + ["a", "top", "in", "out", "subs", "su", "mai", "Main", "run", "nobody", ("sub",), ["main"]]:
            self.refused(NoBody, house.run, name)
            self.assertEqual(house.events(), events)
            self.assertEqual(told(house.ledger()), before)

    def test_no_body_at_all(self):
        for name in NO_NAMES + ["main", "a"]:
            self.refused(NoBody, House(some_kinds(), []).run, name)

    def test_split(self):
        house = House(some_kinds(), of_all_sorts())
        self.refused(NoFault, house.split, 0, GOOD)
        self.refused(NoFault, house.split, 0, None)
        house.run("main")
        events, before = house.events(), told(house.ledger())
        for k in no_numbers(house.ledger()) + [None]:
            self.refused(NoFault, house.split, k, GOOD)
            self.refused(NoFault, house.split, k, ("kind", "nothing"))
        for thing in NO_TESTS:
            self.refused(NoTest, house.split, 0, thing)
        self.assertEqual(house.events(), events)
        self.assertEqual(told(house.ledger()), before)

    def test_good_calls_behind_refused_ones(self):
        house, other = House(some_kinds(), of_all_sorts()), House(some_kinds(), of_all_sorts())
        for _ in range(3):
            self.refused(NoBody, house.run, "nobody")
            self.refused(NoFault, house.split, 10 ** 6, GOOD)
            self.refused(NoProgram, House, some_kinds(), None)
            for one in [house, other]:
                _, number = one.run("main")
                self.assertEqual(one.split(number, ("kind", "zero")), (number, None))
            self.refused(NoTest, house.split, 0, None)
        self.did_the_same(house, other)


class TestTheSameAgain(Houses):
    def test_two_houses_that_do_the_same(self):
        for name in ["main", "sub"]:
            one, other = House(some_kinds(), of_all_sorts()), House(some_kinds(), of_all_sorts())
            one.run(name)
            other.run(name)
            self.did_the_same(one, other)


if __name__ == "__main__":
    unittest.main()
