"""Runs: whole rooms, and what both sorts of rooms have in common."""

import unittest

from houses import ALWAYS, NEVER, WENT, HouseCase, entered, ran, room, rose

WAYS = ["whole", "out"]


class TestBodyGoes(HouseCase):
    def test_empty(self):
        for way in WAYS:
            self.main([room("r", [], way)], *entered("r", WENT), WENT)

    def test_steps_behind_are_done(self):
        for way in WAYS:
            self.main([room("r", [("say", "a")], way), ("say", "b")], *entered("r", ("say", "a"), WENT), ("say", "b"), WENT)

    def test_otherwise_goes(self):
        for way in WAYS:
            body = [room("r", [("say", "a")], way, [], [("say", "b")]), ("say", "c")]
            self.main(body, *entered("r", ("say", "a"), ("say", "b"), WENT), ("say", "c"), WENT)

    def test_otherwise_answers(self):
        for way in WAYS:
            body = [room("r", [("say", "a")], way, [], [("answer", 2), ("say", "no")]), ("say", "no")]
            self.main(body, *entered("r", ("say", "a"), ("answer", 2)), ("answer", 2))

    def test_otherwise_rises_and_catchers_are_not_asked(self):
        for way in WAYS:
            catchers = [(ALWAYS, [("say", "no")])]
            body = [room("r", [("say", "a")], way, catchers, [("raise", "io", "x"), ("say", "no")]), ("say", "no")]
            self.main(body, *entered("r", ("say", "a"), ("rise", "a"), rose("a")), rose("a"))

    def test_otherwise_then_leaving(self):
        for way in WAYS:
            body = [room("r", [("say", "a")], way, [(ALWAYS, [])], [("say", "b")], [("say", "c")])]
            wanted = [("enter", "r"), ("say", "a"), ("say", "b"), ("leaving", "r"), ("say", "c"), ("leave", "r", WENT), WENT]
            self.main(body, *wanted)

    def test_catchers_are_not_run(self):
        for way in WAYS:
            body = [room("r", [("say", "a")], way, [(ALWAYS, [("say", "no")]), (NEVER, [("say", "no")])])]
            self.main(body, *entered("r", ("say", "a"), WENT), WENT)


class TestBodyAnswers(HouseCase):
    def test_leaving_alone_is_run(self):
        for way in WAYS:
            catchers = [(ALWAYS, [("say", "no")])]
            body = [room("r", [("answer", 1), ("say", "no")], way, catchers, [("say", "no")], [("say", "l")]), ("say", "no")]
            wanted = [("enter", "r"), ("leaving", "r"), ("say", "l"), ("leave", "r", ("answer", 1)), ("answer", 1)]
            self.main(body, *wanted)

    def test_through_rooms(self):
        for way in WAYS:
            inner = room("in", [("answer", 7)], way, [], [("say", "no")])
            body = [room("out", [inner, ("say", "no")], way, [], [("say", "no")]), ("say", "no")]
            self.main(body, *entered("out", *entered("in", ("answer", 7)), ("answer", 7)), ("answer", 7))

    def test_a_call_takes_the_answer(self):
        program = [("sub", [room("r", [("answer", 1)])]), ("main", [("call", "sub"), ("say", "b")])]
        self.assertEqual(self.seen(program).events, ran("main", *entered("r", ("answer", 1)), ("say", "b"), WENT))


class TestNoneTakes(HouseCase):
    def test_it_goes_on(self):
        for catchers in [[], [(NEVER, [("say", "no")])], [(("kind", "net"), [("say", "no")]), (("says", "y"), [])]]:
            body = [room("r", [("raise", "disk", "x"), ("say", "no")], "whole", catchers, [("say", "no")]), ("say", "no")]
            seen = self.main(body, *entered("r", ("rise", "a"), rose("a")), rose("a"))
            self.are(seen, a=("disk", "x", [], None, None))

    def test_a_sheaf_is_not_taken_by_its_leaves(self):
        sheaf = ("gather", "g", [[("raise", "disk", "x")], [("raise", "net", "y")]])
        for test in [("kind", "io"), ("kind", "disk"), ("says", "x"), ("says", "y")]:
            body = [room("r", [sheaf], "whole", [(test, [("say", "no")])])]
            self.main(body, *entered("r", ("rise", "a"), ("rise", "b"), ("rise", "c"), rose("c")), rose("c"))


class TestOneTakes(HouseCase):
    def test_the_first_that_fits(self):
        tests = [("kind", "net"), NEVER, ("kind", "io"), ("kind", "disk"), ALWAYS]
        catchers = [(test, [("say", str(at))]) for at, test in enumerate(tests)]
        for kind, wanted in [("net", 0), ("disk", 2), ("io", 2), ("zero", 4), ("fault", 4)]:
            body = [room("r", [("raise", kind, "x"), ("say", "no")], "whole", catchers, [("say", "no")]), ("say", "b")]
            taken = [("rise", "a"), ("take", "r", wanted, "a"), ("say", str(wanted))]
            self.main(body, *entered("r", *taken, WENT), ("say", "b"), WENT)

    def test_by_its_text(self):
        catchers = [(("says", "x"), [("say", "0")]), (("not", ("says", "x")), [("say", "1")])]
        for text, wanted in [("x", 0), ("y", 1), ("", 1)]:
            body = [room("r", [("raise", "io", text)], "whole", catchers)]
            taken = [("rise", "a"), ("take", "r", wanted, "a"), ("say", str(wanted))]
            self.main(body, *entered("r", *taken, WENT), WENT)

    def test_a_sheaf_by_itself(self):
        sheaf = ("gather", "g", [[("raise", "disk", "x")], [("raise", "net", "y")]])
        for test in [("kind", "sheaf"), ("says", "g"), ("and", ("kind", "fault"), ("not", ("kind", "io")))]:
            body = [room("r", [sheaf], "whole", [(("kind", "io"), [("say", "no")]), (test, [("say", "yes")])])]
            risen = [("rise", "a"), ("rise", "b"), ("rise", "c")]
            self.main(body, *entered("r", *risen, ("take", "r", 1, "c"), ("say", "yes"), WENT), WENT)

    def test_its_body_answers(self):
        body = [room("r", [("raise", "io", "x")], "whole", [(ALWAYS, [("answer", 3), ("say", "no")])]), ("say", "no")]
        self.main(body, *entered("r", ("rise", "a"), ("take", "r", 0, "a"), ("answer", 3)), ("answer", 3))

    def test_its_body_rises_and_the_room_has_no_other_catcher_for_it(self):
        catchers = [(("kind", "disk"), [("raise", "net", "y"), ("say", "no")]), (("kind", "net"), [("say", "no")]), (ALWAYS, [])]
        body = [room("r", [("raise", "disk", "x")], "whole", catchers), ("say", "no")]
        self.main(body, *entered("r", ("rise", "a"), ("take", "r", 0, "a"), ("rise", "b"), rose("b")), rose("b"))

    def test_otherwise_is_not_run(self):
        body = [room("r", [("raise", "io", "x")], "whole", [(ALWAYS, [])], [("say", "no")]), ("say", "b")]
        self.main(body, *entered("r", ("rise", "a"), ("take", "r", 0, "a"), WENT), ("say", "b"), WENT)

    def test_outer_rooms(self):
        inner = room("in", [("raise", "io", "x")], "whole", [(("kind", "net"), [("say", "no")])])
        body = [room("out", [inner, ("say", "no")], "whole", [(NEVER, []), (("kind", "io"), [("say", "o")])])]
        risen = entered("in", ("rise", "a"), rose("a"))
        self.main(body, *entered("out", *risen, ("take", "out", 1, "a"), ("say", "o"), WENT), WENT)

    def test_of_a_called_body(self):
        program = [
            ("sub", [("raise", "io", "x")]), ("main", [room("r", [("call", "sub"), ("say", "no")], "whole", [(ALWAYS, [])])]),
        ]
        wanted = ran("main", *entered("r", ("rise", "a"), ("take", "r", 0, "a"), WENT), WENT)
        self.assertEqual(self.seen(program).events, wanted)

    def test_rooms_in_catchers(self):
        inner = room("in", [("raise", "net", "y")], "whole", [(("kind", "net"), [("say", "i")])])
        body = [room("out", [("raise", "disk", "x")], "whole", [(ALWAYS, [inner, ("say", "o")])])]
        taken = entered("in", ("rise", "b"), ("take", "in", 0, "b"), ("say", "i"), WENT)
        self.main(body, *entered("out", ("rise", "a"), ("take", "out", 0, "a"), *taken, ("say", "o"), WENT), WENT)

    def test_a_room_in_a_gather(self):
        inner = room("r", [("raise", "io", "x")], "whole", [(("says", "x"), [("say", "c")])])
        other = room("s", [("raise", "io", "y")], "whole", [(("says", "x"), [("say", "no")])])
        seen = self.main(
            [("gather", "g", [[inner, ("say", "1")], [other, ("say", "no")], [("say", "2")]])],
            *entered("r", ("rise", "a"), ("take", "r", 0, "a"), ("say", "c"), WENT), ("say", "1"),
            *entered("s", ("rise", "b"), rose("b")), ("say", "2"), ("rise", "c"), rose("c"),
        )
        self.shapes(seen, c=["g", "b"])

    def test_the_same_room_entered_again(self):
        program = [
            ("sub", [room("r", [("raise", "io", "x")], "whole", [(ALWAYS, [("say", "c")])])]),
            ("main", [("call", "sub"), ("call", "sub")]),
        ]
        both = [entered("r", ("rise", letter), ("take", "r", 0, letter), ("say", "c"), WENT) for letter in "ab"]
        self.assertEqual(self.seen(program).events, ran("main", *both[0], *both[1], WENT))


if __name__ == "__main__":
    unittest.main()
