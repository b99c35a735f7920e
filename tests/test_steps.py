"""Runs: say, raise, answer, call, gather, and the outcomes."""

import unittest

from faultsheaves.house import House

from houses import WENT, HouseCase, ran, rose
from ledgers import some_kinds

TEXTS = ["a", "", " ", "  two  words ", "\"\\", "x" * 40]


class TestSay(HouseCase):
    def test_nothing_to_do(self):
        self.main([], WENT)

    def test_once(self):
        for text in TEXTS:
            self.main([("say", text)], ("say", text), WENT)

    def test_in_order(self):
        body = [("say", text) for text in ["b", "a", "", "b", "c"]]
        self.main(body, *body, WENT)


class TestRaise(HouseCase):
    def test_a_new_plain_fault(self):
        for kind in ["fault", "io", "disk", "net", "math", "zero"]:
            for text in TEXTS:
                seen = self.main([("raise", kind, text)], ("rise", "a"), rose("a"))
                self.are(seen, a=(kind, text, [], None, None))
                self.shapes(seen, a="a")

    def test_the_steps_behind_are_not_done(self):
        body = [("say", "a"), ("raise", "io", "x"), ("say", "b"), ("raise", "net", "y"), ("answer", 1)]
        self.main(body, ("say", "a"), ("rise", "a"), rose("a"))

    def test_a_new_one_each_time(self):
        seen = self.seen([("main", [("raise", "io", "x")])], "main", "main", "main")
        self.assertEqual(seen.events, sum([ran("main", ("rise", letter), rose(letter)) for letter in "abc"], []))
        self.are(seen, **{letter: ("io", "x", [], None, None) for letter in "abc"})


class TestAnswer(HouseCase):
    def test_numbers(self):
        for number in [0, 1, -1, 7, -12, 10 ** 60 - 1, -(10 ** 60 - 1)]:
            self.main([("answer", number)], ("answer", number))

    def test_the_steps_behind_are_not_done(self):
        self.main([("say", "a"), ("answer", 3), ("say", "b"), ("raise", "io", "x"), ("answer", 4)], ("say", "a"), ("answer", 3))


class TestCall(HouseCase):
    def called(self, inner, *wanted, behind=(("say", "behind"),)):
        """What a run tells in which this body is called, and one step stands behind."""
        seen = self.seen([("sub", inner), ("main", [("call", "sub"), *behind])])
        self.assertEqual(seen.events, ran("main", *wanted))
        return seen

    def test_that_goes(self):
        self.called([("say", "a")], ("say", "a"), ("say", "behind"), WENT)
        self.called([], ("say", "behind"), WENT)

    def test_that_answers(self):
        self.called([("answer", 5)], ("say", "behind"), WENT)
        self.called([("say", "a"), ("answer", 5), ("say", "b")], ("say", "a"), ("say", "behind"), WENT)

    def test_that_answers_alone(self):
        self.called([("answer", 5)], WENT, behind=())
        self.called([("answer", 5)], ("answer", 6), behind=[("answer", 6)])

    def test_that_rises(self):
        seen = self.called([("say", "a"), ("raise", "io", "x"), ("say", "b")], ("say", "a"), ("rise", "a"), rose("a"))
        self.are(seen, a=("io", "x", [], None, None))

    def test_twice(self):
        seen = self.seen([("sub", [("say", "a")]), ("main", [("call", "sub"), ("say", "b"), ("call", "sub")])])
        self.assertEqual(seen.events, ran("main", ("say", "a"), ("say", "b"), ("say", "a"), WENT))

    def test_calls_in_calls(self):
        program = [
            ("one", [("say", "1"), ("answer", 1)]), ("two", [("call", "one"), ("say", "2"), ("answer", 2), ("say", "no")]),
            ("main", [("call", "two"), ("say", "3"), ("call", "one"), ("answer", 3)]),
        ]
        said = [("say", text) for text in "1231"]
        self.assertEqual(self.seen(program).events, ran("main", *said, ("answer", 3)))

    def test_what_rises_goes_through_calls(self):
        program = [
            ("one", [("raise", "io", "x")]), ("two", [("call", "one"), ("say", "no")]), ("main", [("call", "two"), ("answer", 1)]),
        ]
        self.assertEqual(self.seen(program).events, ran("main", ("rise", "a"), rose("a")))

    def test_a_body_of_this_name_not_a_room(self):
        program = [
            ("sub", [("say", "body")]), ("main", [("room", "sub", [("call", "sub")], "whole", [], [], [])]),
        ]
        wanted = ran("main", ("enter", "sub"), ("say", "body"), ("leaving", "sub"), ("leave", "sub", WENT), WENT)
        self.assertEqual(self.seen(program).events, wanted)


class TestGather(HouseCase):
    def test_nothing_rises(self):
        for bodies in [[[]], [[], []], [[("say", "a")], [], [("say", "b"), ("say", "c")]]]:
            said = [step for body in bodies for step in body]
            self.main([("gather", "g", bodies), ("say", "behind")], *said, ("say", "behind"), WENT)

    def test_one_rises(self):
        for at in range(3):
            bodies = [[("say", "x")], [("say", "y")], [("say", "z")]]
            bodies[at] = [("raise", "disk", "full")]
            wanted = [bodies[other][0] if other != at else ("rise", "a") for other in range(3)]
            seen = self.main([("gather", "g", bodies), ("say", "no")], *wanted, ("rise", "b"), rose("b"))
            self.shapes(seen, a="a", b=["g", "a"])
            self.are(seen, a=("disk", "full", [], None, None), b=("sheaf", "g", [], None, None))

    def test_all_rise(self):
        bodies = [[("raise", "disk", "1"), ("say", "no")], [("say", "x"), ("raise", "net", "2")], [("raise", "fault", "3")]]
        seen = self.main(
            [("gather", "three", bodies), ("say", "no")],
            ("rise", "a"), ("say", "x"), ("rise", "b"), ("rise", "c"), ("rise", "d"), rose("d"),
        )
        self.shapes(seen, d=["three", "a", "b", "c"])
        self.are(seen, a=("disk", "1", [], None, None), b=("net", "2", [], None, None), c=("fault", "3", [], None, None))

    def test_only_body_rises(self):
        for text in TEXTS:
            seen = self.main([("gather", text, [[("raise", "io", "x")]])], ("rise", "a"), ("rise", "b"), rose("b"))
            self.shapes(seen, b=[text, "a"])

    def test_whatever_rises_all_bodies_are_run(self):
        bodies = [[("raise", "io", "x")], [("say", "1")], [("raise", "io", "y")], [("say", "2")]]
        seen = self.main(
            [("gather", "", bodies)], ("rise", "a"), ("say", "1"), ("rise", "b"), ("say", "2"), ("rise", "c"), rose("c"),
        )
        self.shapes(seen, c=["", "a", "b"])

    def test_gathers_in_gathers(self):
        inner = ("gather", "in", [[("raise", "io", "x")], [], [("raise", "io", "y")]])
        bodies = [[("raise", "net", "z")], [inner, ("say", "no")], [("gather", "none", [[], []]), ("say", "yes")]]
        seen = self.main(
            [("gather", "out", bodies)],
            ("rise", "a"), ("rise", "b"), ("rise", "c"), ("rise", "d"), ("say", "yes"), ("rise", "e"), rose("e"),
        )
        self.shapes(seen, d=["in", "b", "c"], e=["out", "a", ["in", "b", "c"]])

    def test_calls_that_answer(self):
        program = [
            ("sub", [("say", "s"), ("answer", 1)]),
            ("main", [("gather", "g", [[("call", "sub"), ("say", "a")], [("call", "sub")]]), ("say", "b")]),
        ]
        wanted = [("say", text) for text in "sasb"]
        self.assertEqual(self.seen(program).events, ran("main", *wanted, WENT))

    def test_calls_from_which_something_rises(self):
        program = [("sub", [("raise", "io", "x")]), ("main", [("gather", "g", [[("call", "sub")], [("call", "sub")]])])]
        seen = self.seen(program)
        self.assertEqual(seen.events, ran("main", ("rise", "a"), ("rise", "b"), ("rise", "c"), rose("c")))
        self.shapes(seen, c=["g", "a", "b"])

    def test_behind_a_gather(self):
        body = [("gather", "g", [[("say", "a")]]), ("answer", 4)]
        self.main(body, ("say", "a"), ("answer", 4))


class TestRuns(HouseCase):
    def test_one_behind_the_other(self):
        program = [("one", [("say", "1")]), ("two", [("answer", 2)]), ("three", [("raise", "io", "x")])]
        seen = self.seen(program, "three", "one", "two", "three", "one")
        wanted = ran("three", ("rise", "a"), rose("a")) + ran("one", ("say", "1"), WENT) + ran("two", ("answer", 2))
        wanted += ran("three", ("rise", "b"), rose("b")) + ran("one", ("say", "1"), WENT)
        self.assertEqual(seen.events, wanted)

    def test_outcomes_are_tuples(self):
        house = House(some_kinds(), [("a", []), ("b", [("answer", 3)]), ("c", [("raise", "io", "x")])])
        self.assertEqual(house.run("a"), ("went",))
        self.assertEqual(house.run("b"), ("answer", 3))
        word, number = house.run("c")
        self.assertEqual((word, number.__class__), ("rose", int))
        self.assertEqual(house.ledger().text(number), "x")
        for event in house.events():
            self.assertIs(event.__class__, tuple)

    def test_no_runs_no_events(self):
        self.assertEqual(House(some_kinds(), [("a", [("say", "x")])]).events(), [])
        self.assertEqual(House(some_kinds(), []).events(), [])


if __name__ == "__main__":
    unittest.main()
