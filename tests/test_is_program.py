"""What is a program, and what is none, by some kinds: asked of anything."""

import copy
import itertools
import unittest

from faultsheaves.kinds import Kinds
from faultsheaves.programs import is_program

from ledgers import some_kinds
from no_tests import NO_TESTS
from some_programs import (
    NO_BODIES, NO_CATCHER, NO_LISTS, NO_NAMES, NO_STEPS, PLACES, SORTS, bad_steps, big_program, free, held,
    in_body, in_gather, in_gather_first, in_leaving, in_otherwise, in_out_body, in_out_catcher, in_out_leaving,
    in_out_otherwise, in_whole_catcher, put, steps,
)

OF_HAND = ["again", "note", "raiseof"]
PAIRS_OF_PLACES = list(itertools.product(PLACES, PLACES))
CATCHER = PLACES[8]


class Programs(unittest.TestCase):
    def check(self, wanted, thing, kinds=None):
        with self.subTest(thing=thing):
            before = copy.deepcopy(thing)
            self.assertIs(is_program(some_kinds() if kinds is None else kinds, thing), wanted)
            self.assertEqual(thing, before)

    def yes(self, thing, kinds=None):
        self.check(True, thing, kinds)

    def no(self, thing, kinds=None):
        self.check(False, thing, kinds)


class TestPrograms(Programs):
    def test_without_bodies(self):
        self.yes([])
        self.yes([], Kinds([]))

    def test_empty_bodies(self):
        self.yes([("a", [])])
        self.yes([("a", []), ("b", []), ("abcdefgh", [])])

    def test_of_all_sorts(self):
        self.yes(big_program())

    def test_each_sort_of_step(self):
        for word in SORTS:
            for step in steps(word):
                self.yes(put([step], [CATCHER]))
                self.yes(put([step, ("say", "a")], [CATCHER]))
                self.check(word not in OF_HAND, put([step], []))

    def test_each_sort_of_step_at_each_place(self):
        for places in [()] + [(place,) for place in PLACES] + PAIRS_OF_PLACES:
            for word in ["say", "raise", "call", "gather"]:
                self.yes(put([steps(word)[0]], places))
            self.yes(put([("room", "a", [], "whole", [], [], [])], places))
            for word in OF_HAND:
                self.check(held(places), put([steps(word)[0]], places))
            self.check(free(places), put([("answer", 1)], places))

    def test_three_places_deep(self):
        for places in itertools.product(PLACES[::2] + PLACES[9:], repeat=3):
            self.check(held(places), put([("again",)], places))
            self.check(free(places), put([("answer", 1)], places))

    def test_eight_levels(self):
        for place in PLACES:
            places = [place] * 7
            self.yes(put([("say", "a")], places))
            self.check(held(places), put([("note", "a")], places))
            self.check(free(places), put([("answer", 0)], places))
            self.no(put([("say", 0)], places))
            self.no(put([()], places))
        for at in range(7):
            places = [PLACES[2]] * at + [CATCHER] + [PLACES[3]] * (6 - at)
            self.yes(put([("raiseof", "io", "a"), ("answer", 0)], places))
            places = [CATCHER] * at + [PLACES[9]] + [CATCHER] * (6 - at)
            self.no(put([("answer", 0)], places))

    def test_a_room_and_a_body_of_one_name(self):
        self.yes([("main", [("room", "main", [], "out", [], [], [])])])
        self.yes([("a", [("room", "b", [], "out", [], [], [])]), ("b", [("room", "a", [], "whole", [], [], [])])])

    def test_words_of_the_language_as_names(self):
        for name in ["say", "raise", "answer", "call", "gather", "again", "note", "raiseof", "room", "whole", "out",
                     "body", "catch", "leaving", "fault", "sheaf", "io"]:
            self.yes([(name, [("room", name, [], "out", [], [], [])]), ("main", [("call", name)])])

    def test_numbers(self):
        for number in [0, 1, -1, 10 ** 59, 10 ** 60 - 1, -(10 ** 60 - 1)]:
            self.yes([("a", [("answer", number)])])

    def test_the_same_body_called_often(self):
        self.yes([("a", []), ("b", [("call", "a"), ("call", "a")]), ("c", [("call", "a"), ("call", "b")])])

    def test_one_list_at_several_places(self):
        shared = [("say", "a")]
        self.yes([("a", shared), ("b", [("gather", "", [shared, shared]), ("room", "r", shared, "out", [], shared, shared)])])


class TestNoPrograms(Programs):
    def test_no_lists(self):
        for thing in NO_LISTS + [(("a", []),), ("a", []), {"a": []}, "program", b"a"]:
            self.no(thing)

    def test_no_pairs(self):
        for pair in [None, True, 0, "", "ab", "a", [], ["a", []], {}, {"a": []}, (), ("a",), ([],), ("a", [], []),
                     ("a", [], None), ([], "a"), ("a", "b", []), (("a", []),), [("a", [])]]:
            self.no([pair])
            self.no([("x", []), pair])
            self.no([pair, ("x", [])])

    def test_names(self):
        for name in NO_NAMES:
            self.no([(name, [])])
            self.no([("a", []), (name, [])])
            self.no([(name, []), ("a", [])])

    def test_bodies_that_are_none(self):
        for body in NO_BODIES:
            self.no([("a", body)])
            self.no([("a", []), ("b", body), ("c", [])])
            for place in PLACES:
                self.no(put(body, [])[:1] + [("main", [place[0](body, "r")])])

    def test_steps_that_are_none(self):
        for step in NO_STEPS:
            for body in [[step], [step, ("say", "a")], [("say", "a"), step], [("say", "a"), step, ("say", "b")]]:
                self.no([("a", body)])
                self.no(put(body, [CATCHER]))
                self.no(put(body, [PLACES[0]]))

    def test_steps_with_a_wrong_part(self):
        for word in SORTS:
            for step in bad_steps(word):
                self.no(put([step], [CATCHER]))

    def test_steps_with_a_wrong_part_deep_within(self):
        for word in SORTS:
            for at, step in enumerate(bad_steps(word)):
                places = PAIRS_OF_PLACES[at * 7 % len(PAIRS_OF_PLACES)]
                self.no(put([step], [CATCHER, *places]))

    def test_two_bodies_of_one_name(self):
        self.no([("a", []), ("a", [])])
        self.no([("a", []), ("b", []), ("a", [("say", "x")])])
        self.no([("b", []), ("a", []), ("a", [])])
        self.yes([("a", []), ("b", []), ("aa", []), ("ab", [])])

    def test_tests_that_are_none(self):
        for test in NO_TESTS:
            for way in ["whole", "out"]:
                for catchers in [[(test, [])], [(("kind", "io"), []), (test, [])], [(test, []), (("kind", "io"), [])]]:
                    self.no([("a", [("room", "r", [], way, catchers, [], [])])])

    def test_catchers_that_are_none(self):
        for catcher in NO_CATCHER:
            for way in ["whole", "out"]:
                for catchers in [[catcher], [(("kind", "io"), []), catcher], [catcher, (("kind", "io"), [])]]:
                    self.no([("a", [("room", "r", [], way, catchers, [], [])])])

    def test_gathers_of_no_bodies(self):
        for places in [()] + [(place,) for place in PLACES]:
            self.no(put([("gather", "a", [])], places))
            self.yes(put([("gather", "a", [[]])], places))

    def test_lists_for_tuples_and_tuples_for_lists(self):
        def room(body=(), way="whole", catchers=(), otherwise=(), leaving=()):
            return ("room", "r", body, way, catchers, otherwise, leaving)

        good = room([], "whole", [], [], [])
        self.yes([("a", [good])])
        for step in [
            room((), "whole", [], [], []), room([], "whole", (), [], []), room([], "whole", [], (), []),
            room([], "whole", [], [], ()), list(good), room([], ["whole"], [], [], []), room([], ("whole",), [], [], []),
            room([], "whole", [[("kind", "io"), []]], [], []), room([], "whole", [(["kind", "io"], [])], [], []),
            room([], "whole", [(("kind", "io"), ())], [], []), room([], "whole", ((("kind", "io"), []),), [], []),
            ("gather", "a", ([],)), ("gather", "a", [()]), ("gather", "a", [(("say", "a"),)]), ["gather", "a", [[]]],
        ]:
            self.no([("a", [step])])
        self.no([["a", []]])
        self.no([("a", ())])
        self.no((("a", []),))
        self.no([("a", (("say", "a"),))])
        self.no([("a", [["say", "a"]])])


class TestRooms(Programs):
    ROOM = ("room", "r", [], "whole", [], [], [])

    def test_two_rooms_of_one_name_in_one_body(self):
        self.yes([("a", [self.ROOM])])
        self.no([("a", [self.ROOM, self.ROOM])])
        self.no([("a", [self.ROOM, ("say", "a"), ("room", "r", [("say", "b")], "out", [], [], [])])])
        self.yes([("a", [self.ROOM, ("room", "s", [], "whole", [], [], [])])])

    def test_two_rooms_of_one_name_in_two_bodies(self):
        self.no([("a", [self.ROOM]), ("b", [self.ROOM])])
        self.no([("a", [self.ROOM]), ("b", []), ("c", [("gather", "", [[self.ROOM]])])])
        self.yes([("a", [self.ROOM]), ("b", [("room", "s", [], "whole", [], [], [])])])

    def test_two_rooms_of_one_name_within_one_another(self):
        for place in PLACES[2:]:
            self.no([("a", [place[0]([self.ROOM], "r")])])
            self.yes([("a", [place[0]([self.ROOM], "s")])])

    def test_two_rooms_of_one_name_at_any_places(self):
        for (one, _, _), (other, _, _) in PAIRS_OF_PLACES:
            self.no([("a", [one([self.ROOM], "s"), other([self.ROOM], "t")])])
            self.yes([("a", [one([self.ROOM], "s"), other([("room", "u", [], "out", [], [], [])], "t")])])
            self.no([("a", [one([other([self.ROOM], "s")], "t")]), ("b", [self.ROOM])])

    def test_within_one_room_at_its_several_places(self):
        spots = [([self.ROOM], [], [], []), ([], [self.ROOM], [], []), ([], [], [self.ROOM], []), ([], [], [], [self.ROOM])]
        for one, other in itertools.combinations(spots, 2):
            body, caught, otherwise, leaving = [x + y for x, y in zip(one, other)]
            self.no([("a", [("room", "s", body, "out", [(("kind", "io"), caught)], otherwise, leaving)])])
        for body, caught, otherwise, leaving in spots:
            self.yes([("a", [("room", "s", body, "out", [(("kind", "io"), caught)], otherwise, leaving)])])

    def test_in_two_catchers(self):
        catchers = [(("kind", "io"), [self.ROOM]), (("kind", "net"), [self.ROOM])]
        self.no([("a", [("room", "s", [], "out", catchers, [], [])])])
        self.no([("a", [("gather", "", [[self.ROOM], [self.ROOM]])])])


class TestCalls(Programs):
    def test_bodies_ahead_alone(self):
        self.yes([("a", []), ("b", [("call", "a")])])
        self.yes([("a", []), ("b", []), ("c", [("call", "b"), ("call", "a")])])
        self.no([("a", [("call", "b")]), ("b", [])])
        self.no([("a", [("call", "a")])])
        self.no([("a", []), ("b", [("call", "b")])])
        self.no([("a", []), ("b", [("call", "c")]), ("c", [])])
        self.no([("a", []), ("b", [("call", "x")])])
        self.no([("a", []), ("b", [("call", "a"), ("call", "b")])])

    def test_deep_within(self):
        for place, _, _ in PLACES:
            self.yes([("a", []), ("b", [place([("call", "a")], "r")])])
            for name in ["b", "c", "r", "x", ""]:
                self.no([("a", []), ("b", [place([("call", name)], "r")]), ("c", [])])

    def test_rooms_are_not_called(self):
        self.no([("a", [("room", "r", [], "out", [], [], [])]), ("b", [("call", "r")])])


class TestOfHand(Programs):
    """Where `again`, `note`, `raiseof` may stand; test_each_sort_of_step_at_each_place asks most of it."""

    def test_not_at_the_side_of_a_catcher(self):
        for step in [("again",), ("note", "a"), ("raiseof", "io", "a")]:
            for place in [in_body, in_otherwise, in_leaving, in_out_body, in_out_otherwise, in_out_leaving]:
                self.no([("a", [place([step], "r")])])
                self.no([("a", [place([("gather", "", [[step]])], "r")])])
                self.no([("a", [place([("say", "a"), step], "r")])])

    def test_not_behind_a_room_with_a_catcher(self):
        for step in [("again",), ("note", "a"), ("raiseof", "io", "a")]:
            for place in [in_whole_catcher, in_out_catcher]:
                self.yes([("a", [place([step], "r")])])
                self.no([("a", [place([step], "r"), step])])
                self.no([("a", [step, place([step], "r")])])
                self.no([("a", [place([step], "r")]), ("b", [step])])

    def test_not_in_a_body_that_is_called_from_a_catcher(self):
        self.no([("a", [("again",)]), ("b", [in_whole_catcher([("call", "a")], "r")])])

    def test_at_all_places_of_a_room_in_a_catcher(self):
        for step in [("again",), ("note", "a"), ("raiseof", "io", "a")]:
            for place in [in_body, in_otherwise, in_leaving, in_gather, in_gather_first, in_out_body, in_out_otherwise,
                          in_out_leaving]:
                for catcher in [in_whole_catcher, in_out_catcher]:
                    self.yes([("a", [catcher([place([step], "s")], "r")])])


class TestAnswers(Programs):
    def test_in_a_whole_rooms_places(self):
        for place in [in_body, in_otherwise, in_leaving, in_whole_catcher, in_out_body, in_out_otherwise, in_out_leaving]:
            self.yes([("a", [place([("answer", 1)], "r")])])
        self.no([("a", [in_out_catcher([("answer", 1)], "r")])])
        self.no([("a", [in_gather([("answer", 1)], "r")])])

    def test_within_an_out_catcher_however_deep(self):
        for place in [in_body, in_otherwise, in_leaving, in_whole_catcher, in_out_body, in_out_otherwise, in_out_leaving]:
            for outer in [in_out_catcher, in_gather, in_gather_first]:
                self.no([("a", [outer([place([("answer", 1)], "s")], "r")])])
                self.no([("a", [outer([in_body([place([("answer", 1)], "t")], "s")], "r")])])

    def test_behind_a_gather_or_an_out_room(self):
        for place in [in_gather, in_out_catcher]:
            self.yes([("a", [place([("say", "a")], "r"), ("answer", 1)])])
            self.yes([("a", [("answer", 1), place([("say", "a")], "r")])])

    def test_of_a_body_that_is_called_there(self):
        for place in [in_gather, in_out_catcher]:
            self.yes([("a", [("answer", 1)]), ("b", [place([("call", "a")], "r")])])


class TestKinds(Programs):
    def test_of_other_kinds(self):
        spots = {
            "io": [("raise", "io", "")], "net": [in_whole_catcher([("raiseof", "net", "")], "r")],
            "math": [("room", "s", [], "out", [(("not", ("kind", "math")), [])], [], [])],
            "zero": [("gather", "", [[("raise", "zero", "")]])],
        }
        pairs = [("io", "fault"), ("net", "fault"), ("math", "fault"), ("zero", "fault"), ("other", "fault")]
        for name, body in spots.items():
            for lacking, _ in pairs:
                kinds = Kinds([pair for pair in pairs if pair[0] != lacking])
                needed = [name, "io"] if name == "net" else [name]
                self.check(lacking not in needed, [("a", body)], kinds)

    def test_without_kinds(self):
        none = Kinds([])
        self.yes([("a", [("raise", "fault", "")])], none)
        self.yes([("a", [("room", "r", [], "out", [(("kind", "sheaf"), [])], [], [])])], none)
        self.no([("a", [("raise", "sheaf", "")])], none)
        self.no([("a", [("raise", "io", "")])], none)
        self.no(big_program(), none)

    def test_sheaf_is_no_kind_to_raise(self):
        self.no([("a", [("raise", "sheaf", "a")])])
        self.no([("a", [in_whole_catcher([("raiseof", "sheaf", "a")], "r")])])
        self.yes([("a", [("room", "r", [], "whole", [(("kind", "sheaf"), [])], [], [])])])


class TestAskedAgain(Programs):
    def test_the_same_again(self):
        kinds = some_kinds()
        program = big_program()
        for _ in range(3):
            self.yes(program, kinds)
            self.no(program + program, kinds)
        self.assertEqual(kinds.names(), some_kinds().names())

    def test_as_it_is_then(self):
        program = big_program()
        self.yes(program)
        program[0][1].append(("again",))
        self.no(program)
        program[0][1].pop()
        self.yes(program)
        program[2][1][2][2].append([("answer", 1)])
        self.no(program)


if __name__ == "__main__":
    unittest.main()
