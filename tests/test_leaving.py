"""Runs: leavings, what they raise or answer, and what is put off by them."""

import unittest

from houses import ALWAYS, NEVER, WENT, HouseCase, ran, room, rose

NET = ("kind", "net")

# Ways to have an outcome so far: steps of a body, catchers, otherwise; what is told of it; and the outcome.
# Where a fault is on its way, its letter is a, but for what comes out of a whole room's catcher as b.
SO_FAR = [
    ([], [], [], [], WENT),
    ([("say", "s")], [(ALWAYS, [])], [("say", "o")], [("say", "s"), ("say", "o")], WENT),
    ([("answer", 1)], [(ALWAYS, [])], [("say", "no")], [], ("answer", 1)),
    ([], [], [("answer", 2)], [], ("answer", 2)),
    ([("raise", "io", "x")], [(ALWAYS, [("answer", 3)])], [], [("rise", "a"), ("take", "r", 0, "a")], ("answer", 3)),
    ([("raise", "io", "x")], [(ALWAYS, [])], [], [("rise", "a"), ("take", "r", 0, "a")], WENT),
    ([("raise", "io", "x")], [], [("say", "no")], [("rise", "a")], rose("a")),
    ([], [], [("raise", "io", "x")], [("rise", "a")], rose("a")),
    ([("raise", "io", "x")], [(NEVER, [])], [], [("rise", "a")], rose("a")),
    ([("raise", "io", "x")], [(ALWAYS, [("again",)])], [], [("rise", "a"), ("take", "r", 0, "a"), ("again", "a")], rose("a")),
    ([("raise", "io", "x")], [(ALWAYS, [("raise", "net", "y")])], [], [("rise", "a"), ("take", "r", 0, "a"), ("rise", "b")], rose("b")),
]


def following(events):
    """The letter of the next fault behind these events."""
    seen = {event[-1] for event in events if event[0] in ("rise", "take")}
    return "abcdefg"[len(seen)]


class TestLeaving(HouseCase):
    def each(self, leaving, told, outcome):
        """Behind each outcome so far this leaving is run: told and outcome are asked with the next letter."""
        for body, catchers, otherwise, wanted, so_far in SO_FAR:
            letter = following(wanted)
            off = [("off", "r", so_far[1])] if so_far[0] == "rose" and outcome(letter) is not None else []
            last = so_far if outcome(letter) is None else outcome(letter)
            with self.subTest(body=body, catchers=catchers, otherwise=otherwise):
                self.main(
                    [room("r", body, "whole", catchers, otherwise, leaving)],
                    ("enter", "r"), *wanted, ("leaving", "r"), *told(letter), *off, ("leave", "r", last), last,
                )

    def test_empty(self):
        self.each([], lambda letter: [], lambda letter: None)

    def test_that_goes(self):
        steps = [("say", "l"), ("say", ""), room("in", [("say", "i")])]
        inner = [("say", "l"), ("say", ""), ("enter", "in"), ("say", "i"), ("leaving", "in"), ("leave", "in", WENT)]
        self.each(steps, lambda letter: inner, lambda letter: None)

    def test_that_answers(self):
        self.each([("say", "l"), ("answer", 9), ("say", "no")], lambda letter: [("say", "l")], lambda letter: ("answer", 9))

    def test_that_answers_the_same(self):
        self.each([("answer", 1)], lambda letter: [], lambda letter: ("answer", 1))

    def test_that_rises(self):
        steps = [("say", "l"), ("raise", "zero", "z"), ("say", "no")]
        self.each(steps, lambda letter: [("say", "l"), ("rise", letter)], rose)

    def test_that_gathers(self):
        letters = "abcdefg"
        steps = [("gather", "g", [[("raise", "zero", "z")], []])]
        self.each(steps, lambda letter: [("rise", letter), ("rise", letters[letters.index(letter) + 1])],
                  lambda letter: rose(letters[letters.index(letter) + 1]))

    def test_what_rises_in_it_is_taken_in_it(self):
        inner = room("in", [("raise", "zero", "z")], "whole", [(ALWAYS, [("say", "c")])])

        def told(letter):
            return [("enter", "in"), ("rise", letter), ("take", "in", 0, letter), ("say", "c"), ("leaving", "in"), ("leave", "in", WENT)]

        self.each([inner], told, lambda letter: None)

    def test_its_own_catchers_do_not_take_what_rises_in_it(self):
        body = [room("r", [("say", "s")], "whole", [(ALWAYS, [("say", "no")])], [], [("raise", "io", "x")])]
        self.main(body, ("enter", "r"), ("say", "s"), ("leaving", "r"), ("rise", "a"), ("leave", "r", rose("a")), rose("a"))

    def test_an_outer_room_takes_what_rises_in_it(self):
        inner = room("in", [("raise", "io", "x")], "whole", [], [], [("raise", "net", "y")])
        body = [room("out", [inner, ("say", "no")], "whole", [(NET, [("say", "c")]), (ALWAYS, [("say", "no")])])]
        self.main(
            body, ("enter", "out"), ("enter", "in"), ("rise", "a"), ("leaving", "in"), ("rise", "b"), ("off", "in", "a"),
            ("leave", "in", rose("b")), ("take", "out", 0, "b"), ("say", "c"), ("leaving", "out"), ("leave", "out", WENT), WENT,
        )

    def test_an_answer_goes_further_out(self):
        inner = room("in", [("raise", "io", "x")], "whole", [], [], [("answer", 4)])
        body = [room("out", [inner, ("say", "no")], "whole", [(ALWAYS, [("say", "no")])], [("say", "no")]), ("say", "no")]
        self.main(
            body, ("enter", "out"), ("enter", "in"), ("rise", "a"), ("leaving", "in"), ("off", "in", "a"),
            ("leave", "in", ("answer", 4)), ("leaving", "out"), ("leave", "out", ("answer", 4)), ("answer", 4),
        )

    def test_just_once_for_each_entering(self):
        program = [
            ("sub", [room("r", [("raise", "io", "x")], "whole", [(ALWAYS, [("again",)])], [], [("say", "l")])]),
            ("main", [("gather", "g", [[("call", "sub")], [("call", "sub")], [("call", "sub")]])]),
        ]
        events = self.seen(program).events
        for word in ["enter", "leaving", "leave"]:
            self.assertEqual(len([event for event in events if event[0] == word]), 3)
        self.assertEqual(events.count(("say", "l")), 3)


class TestOutRooms(HouseCase):
    TWO = ("gather", "two", [[("raise", "disk", "1")], [("raise", "net", "2")]])
    RISEN = [("enter", "r"), ("rise", "a"), ("rise", "b"), ("rise", "c")]

    def test_what_comes_out_is_put_off(self):
        taken = [("take", "r", 0, "d"), ("come", "r", "e"), ("leaving", "r")]
        for leaving, told, last in [
            ([("answer", 1)], [("off", "r", "e")], ("answer", 1)),
            ([("raise", "io", "x")], [("rise", "f"), ("off", "r", "e")], rose("f")),
            ([("say", "l")], [("say", "l")], rose("e")),
        ]:
            self.main([room("r", [self.TWO], "out", [(NET, [])], [], leaving)], *self.RISEN, *taken, *told, ("leave", "r", last), last)

    def test_what_none_takes_is_put_off(self):
        body = [room("r", [self.TWO], "out", [(NEVER, [])], [], [("answer", 1)])]
        self.main(body, *self.RISEN, ("leaving", "r"), ("off", "r", "c"), ("leave", "r", ("answer", 1)), ("answer", 1))

    def test_nothing_comes_out(self):
        taken = [("take", "r", 0, "c"), ("leaving", "r")]
        for leaving, told, last in [
            ([("answer", 1)], [], ("answer", 1)), ([("raise", "io", "x")], [("rise", "d")], rose("d")), ([], [], WENT),
        ]:
            self.main([room("r", [self.TWO], "out", [(ALWAYS, [])], [], leaving)], *self.RISEN, *taken, *told, ("leave", "r", last), last)

    def test_body_goes_or_answers(self):
        for way in ["whole", "out"]:
            self.main([room("r", [("say", "s")], way, [(ALWAYS, [])], [], [("answer", 1)])],
                      ("enter", "r"), ("say", "s"), ("leaving", "r"), ("leave", "r", ("answer", 1)), ("answer", 1))
            self.main([room("r", [("answer", 2)], way, [(ALWAYS, [])], [], [("answer", 1)])],
                      ("enter", "r"), ("leaving", "r"), ("leave", "r", ("answer", 1)), ("answer", 1))


class TestTheSameAgain(HouseCase):
    """A leaving by which just that fault rises once more that is on its way."""

    def test_is_not_put_off(self):
        inner = room("in", [("again",)], "whole", [], [], [("say", "l"), ("again",), ("say", "no")])
        body = [room("out", [("raise", "io", "x")], "whole", [(ALWAYS, [inner])])]
        seen = self.main(
            body, ("enter", "out"), ("rise", "a"), ("take", "out", 0, "a"), ("enter", "in"), ("again", "a"), ("leaving", "in"),
            ("say", "l"), ("again", "a"), ("leave", "in", rose("a")), ("leaving", "out"), ("leave", "out", rose("a")), rose("a"),
        )
        self.are(seen, a=("io", "x", [], None, None))

    def test_another_one_is_put_off_by_it(self):
        inner = room("in", [("raise", "net", "y")], "whole", [], [], [("again",)])
        body = [room("out", [("raise", "io", "x")], "whole", [(ALWAYS, [inner])])]
        seen = self.main(
            body, ("enter", "out"), ("rise", "a"), ("take", "out", 0, "a"), ("enter", "in"), ("rise", "b"), ("leaving", "in"),
            ("again", "a"), ("off", "in", "b"), ("leave", "in", rose("a")), ("leaving", "out"), ("leave", "out", rose("a")), rose("a"),
        )
        self.are(seen, a=("io", "x", [], None, "b"), b=("net", "y", [], None, None))

    def test_a_sheaf_of_it_puts_it_off(self):
        inner = room("in", [("again",)], "whole", [], [], [("gather", "g", [[("again",)]])])
        body = [room("out", [("raise", "io", "x")], "whole", [(ALWAYS, [inner])])]
        seen = self.main(
            body, ("enter", "out"), ("rise", "a"), ("take", "out", 0, "a"), ("enter", "in"), ("again", "a"), ("leaving", "in"),
            ("again", "a"), ("rise", "b"), ("off", "in", "a"), ("leave", "in", rose("b")), ("leaving", "out"),
            ("leave", "out", rose("b")), rose("b"),
        )
        self.shapes(seen, b=["g", "a"])

    def test_a_part_of_it_puts_it_off(self):
        two = ("gather", "two", [[("raise", "disk", "1")], [("raise", "net", "2")]])
        inner = room("in", [("again",)], "whole", [], [], [room("deep", [("again",)], "out", [(NET, [])])])
        seen = self.main(
            [room("out", [two], "whole", [(ALWAYS, [inner])])],
            ("enter", "out"), ("rise", "a"), ("rise", "b"), ("rise", "c"), ("take", "out", 0, "c"), ("enter", "in"), ("again", "c"),
            ("leaving", "in"), ("enter", "deep"), ("again", "c"), ("take", "deep", 0, "d"), ("come", "deep", "e"),
            ("leaving", "deep"), ("leave", "deep", rose("e")), ("off", "in", "c"), ("leave", "in", rose("e")),
            ("leaving", "out"), ("leave", "out", rose("e")), rose("e"),
        )
        self.shapes(seen, d=["two", "b"], e=["two", "a"])

    def test_all_of_it_comes_out_of_a_room_within(self):
        inner = room("in", [("again",)], "whole", [], [], [room("deep", [("again",)], "out", [(ALWAYS, [("again",)])])])
        two = ("gather", "two", [[("raise", "disk", "1")], [("raise", "net", "2")]])
        self.main(
            [room("out", [two], "whole", [(ALWAYS, [inner])])],
            ("enter", "out"), ("rise", "a"), ("rise", "b"), ("rise", "c"), ("take", "out", 0, "c"), ("enter", "in"), ("again", "c"),
            ("leaving", "in"), ("enter", "deep"), ("again", "c"), ("take", "deep", 0, "c"), ("again", "c"), ("come", "deep", "c"),
            ("leaving", "deep"), ("leave", "deep", rose("c")), ("leave", "in", rose("c")),
            ("leaving", "out"), ("leave", "out", rose("c")), rose("c"),
        )


class TestLeavingsInLeavings(HouseCase):
    def test_each_puts_off_its_own(self):
        deep = room("deep", [("raise", "io", "2")], "whole", [], [], [("raise", "io", "3")])
        body = [room("r", [("raise", "io", "1")], "whole", [], [], [deep, ("say", "no")])]
        seen = self.main(
            body, ("enter", "r"), ("rise", "a"), ("leaving", "r"), ("enter", "deep"), ("rise", "b"), ("leaving", "deep"),
            ("rise", "c"), ("off", "deep", "b"), ("leave", "deep", rose("c")), ("off", "r", "a"), ("leave", "r", rose("c")), rose("c"),
        )
        self.are(seen, a=("io", "1", [], None, None), b=("io", "2", [], None, "a"), c=("io", "3", [], None, "b"))

    def test_rooms_within_one_another_leave_from_within(self):
        inner = room("in", [("raise", "io", "x")], "whole", [], [], [("say", "i")])
        middle = room("mid", [inner], "out", [], [], [("say", "m")])
        self.main(
            [room("out", [middle], "whole", [], [], [("say", "o")])],
            ("enter", "out"), ("enter", "mid"), ("enter", "in"), ("rise", "a"), ("leaving", "in"), ("say", "i"),
            ("leave", "in", rose("a")), ("leaving", "mid"), ("say", "m"), ("leave", "mid", rose("a")), ("leaving", "out"),
            ("say", "o"), ("leave", "out", rose("a")), rose("a"),
        )

    def test_a_call_in_a_leaving(self):
        program = [
            ("sub", [("say", "s"), ("answer", 5)]), ("bad", [("raise", "net", "y")]),
            ("one", [room("r", [("raise", "io", "x")], "whole", [], [], [("call", "sub"), ("say", "l")])]),
            ("two", [room("t", [("raise", "io", "x")], "whole", [], [], [("call", "bad"), ("say", "no")])]),
        ]
        seen = self.seen(program, "one", "two")
        wanted = ran("one", ("enter", "r"), ("rise", "a"), ("leaving", "r"), ("say", "s"), ("say", "l"), ("leave", "r", rose("a")), rose("a"))
        wanted += ran("two", ("enter", "t"), ("rise", "b"), ("leaving", "t"), ("rise", "c"), ("off", "t", "b"), ("leave", "t", rose("c")),
                      rose("c"))
        self.assertEqual(seen.events, wanted)


if __name__ == "__main__":
    unittest.main()
