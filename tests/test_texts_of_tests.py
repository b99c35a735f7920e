"""Texts of tests: written, and read."""

import unittest

from faultsheaves.errors import NoTest, NoText
from faultsheaves.kinds import Kinds
from faultsheaves.programtexts import read_test, text_of_test

from ledgers import NO_TEXTS, some_kinds
from no_tests import GOOD, NO_TESTS, within
from parting import SOME_TESTS, Dice

IO, NET = ("kind", "io"), ("kind", "net")

# Texts, and how they are written within quotes.
QUOTED = [
    ("", ""), ("a", "a"), (" ", " "), ("  two  words ", "  two  words "), ('"', '\\"'), ("\\", "\\\\"), ('\\"', '\\\\\\"'),
    ('"\\', '\\"\\\\'), ('""', '\\"\\"'), ("\\\\", "\\\\\\\\"), ('a "b" c', 'a \\"b\\" c'), ("(a)", "(a)"), (")", ")"),
    ("kind io", "kind io"), ("not", "not"), ("and or", "and or"), ('says "x"', 'says \\"x\\"'), ("'", "'"), ("#", "#"),
    ('" kind io', '\\" kind io'), ('x" and says "y', 'x\\" and says \\"y'), ("\\n", "\\\\n"), ("x" * 40, "x" * 40),
]

# Texts that are no test's text, though near to one.
NO_TESTS_TEXTS = [
    "", " ", "  ", "kind", "kind ", "kind  io", " kind io", "kind io ", "kind io  ", "Kind io", "KIND io", "kinds io", "kin io", "kind Io", "kind IO", "kind ios", "kind i", "kind nothing",
    'kind "io"', "kind io io", "kind io kind io", "kindio", "io", "kind io,", "kind (io)", "(kind io)", "('kind', 'io')",
    '("kind", "io")', "kind 'io'",
    "says", "says ", "says a", 'says"a"', 'says  "a"', 'says "a" ', ' says "a"', 'says "a', 'says a"', 'says "', 'says ""a',
    'says "a"b', 'says "a" b', 'says "a""b"', 'says "a" "b"', 'says "\\"', 'says "\\', 'says "a\\"', 'says "\\a"', 'says "\\n"',
    'says "a\\b"', 'says "\\ "', "says 'a'", 'says """', 'says "\\\\\\"', 'Says "a"', 'say "a"', 'says (a)',
    "noted", "noted ", "noted a", 'noted"a"', 'noted  "a"', 'noted "a" ', 'noted "a', 'noted a"', 'noted "\\x"', 'note "a"',
    'Noted "a"', 'noted "a""b"', 'noted "a" kind io', 'noted "a""',
    "not", "not ", "not  kind io", "not kind", "not kind io ", "not kind io kind io", "not not", "not not ", "notkind io",
    "not io", "not (kind io)", "Not kind io", "not says", 'not says "a', "no kind io", "not and kind io",
    "and", "and ", "and kind io", "and kind io ", "and kind io kind", "and kind io  kind net", "and  kind io kind net",
    "and kind io kind net ", "and kind io kind net kind io", "kind io and kind net", "and kind io, kind net", "and kind io or",
    "And kind io kind net", "and kind iokind net", "and (kind io) (kind net)", "and kind io not",
    "or", "or ", "or kind io", "or kind io kind", "or kind io  kind net", "or  kind io kind net", "or kind io kind net ",
    "or kind io kind net kind io", "kind io or kind net", "Or kind io kind net", "xor kind io kind net", "or and kind io kind net",
    "or kind io and kind net", 'or says "a"says "b"', 'or says "a" says "b', 'and says "a says "b"', 'or says "a"  says "b"',
    'and or kind io kind net', "none", "None", "0", "()", "fits", "noted not",
]


def drawn_test(dice, levels):
    """A test by dice, so many levels deep at the most."""
    sort = dice.below(6 if levels > 1 else 3)
    if sort == 0:
        return ("kind", dice.one_of(["fault", "sheaf", "io", "disk", "net", "math", "zero"]))
    if sort < 3:
        text = "".join(dice.one_of(['"', "\\", " ", "a", "not", ")", "kind io", "z"]) for _ in range(dice.below(6)))
        return (["says", "noted"][sort - 1], text)
    if sort == 3:
        return ("not", drawn_test(dice, levels - 1))
    return (["and", "or"][sort - 4], drawn_test(dice, levels - 1), drawn_test(dice, levels - 1))


class Texts(unittest.TestCase):
    def both(self, test, text, kinds=None):
        """The test is written so, and just so it is read."""
        kinds = some_kinds() if kinds is None else kinds
        with self.subTest(test=test, text=text):
            written = text_of_test(kinds, test)
            self.assertIs(written.__class__, str)
            self.assertEqual(written, text)
            read = read_test(kinds, text)
            self.assertEqual(read, test)
            self.same_classes(read)

    def same_classes(self, test):
        self.assertIs(test.__class__, tuple)
        for inner in test[1:]:
            if test[0] in ("kind", "says", "noted"):
                self.assertIs(inner.__class__, str)
            else:
                self.same_classes(inner)

    def refused(self, error, function, kinds, thing):
        with self.subTest(function=function.__name__, thing=thing):
            with self.assertRaises(ValueError) as caught:
                function(kinds, thing)
            self.assertIs(caught.exception.__class__, error)


class TestBoth(Texts):
    def test_kinds(self):
        for name in ["fault", "sheaf", "io", "disk", "net", "math", "zero"]:
            self.both(("kind", name), "kind " + name)

    def test_texts(self):
        for text, inner in QUOTED:
            for word in ["says", "noted"]:
                self.both((word, text), word + ' "' + inner + '"')

    def test_nested_once(self):
        singles = [(("kind", "io"), "kind io"), (("says", ""), 'says ""'), (("noted", 'a "b'), 'noted "a \\"b"')]
        for test, text in singles:
            self.both(("not", test), "not " + text)
            for other, behind in singles:
                for word in ["and", "or"]:
                    self.both((word, test, other), word + " " + text + " " + behind)

    def test_quotes_within_nests(self):
        for text, inner in QUOTED:
            one = ("says", text)
            quote = 'says "' + inner + '"'
            self.both(("not", one), "not " + quote)
            self.both(("and", one, one), "and " + quote + " " + quote)
            self.both(("or", ("noted", text), IO), 'or noted "' + inner + '" kind io')
            self.both(("or", IO, ("not", one)), "or kind io not " + quote)

    def test_the_order_of_two(self):
        self.both(("and", IO, NET), "and kind io kind net")
        self.both(("and", NET, IO), "and kind net kind io")
        self.both(("or", IO, ("and", NET, ("says", "a"))), 'or kind io and kind net says "a"')
        self.both(("or", ("and", IO, NET), ("says", "a")), 'or and kind io kind net says "a"')
        self.both(("and", ("or", IO, NET), ("or", NET, IO)), "and or kind io kind net or kind net kind io")

    def test_nots_in_nots(self):
        test, text = IO, "kind io"
        for _ in range(7):
            test, text = ("not", test), "not " + text
            self.both(test, text)

    def test_eight_levels(self):
        left = right = IO
        left_text = right_text = "kind io"
        for level in range(6):
            word = ["and", "or"][level % 2]
            left, left_text = (word, left, NET), word + " " + left_text + " kind net"
            right, right_text = (word, NET, right), word + " kind net " + right_text
            self.both(left, left_text)
            self.both(right, right_text)
        self.both(("or", left, right), "or " + left_text + " " + right_text)

    def test_of_all_sorts(self):
        for test in SOME_TESTS + [outer for test in SOME_TESTS for outer in within(test)]:
            text = text_of_test(some_kinds(), test)
            self.both(test, text)

    def test_read_written_read_again(self):
        for seed in range(400):
            test = drawn_test(Dice(seed), 6)
            text = text_of_test(some_kinds(), test)
            self.both(test, text)
            self.assertEqual(text_of_test(some_kinds(), read_test(some_kinds(), text)), text)

    def test_of_other_kinds(self):
        words = ["kind", "says", "noted", "not", "and", "or"]
        kinds = Kinds([(word, "fault") for word in words])
        for word in words:
            self.both(("kind", word), "kind " + word, kinds)
            self.both(("not", ("kind", word)), "not kind " + word, kinds)
            self.both(("or", ("kind", word), ("kind", "not")), "or kind " + word + " kind not", kinds)
            self.refused(NoText, read_test, kinds, word)
            self.refused(NoText, read_test, some_kinds(), "kind " + word)
            self.refused(NoTest, text_of_test, some_kinds(), ("kind", word))

    def test_texts_of_3000_signs(self):
        for text, inner in [("x" * 2990, "x" * 2990), ('"' * 1490, '\\"' * 1490), ("\\ " * 990, "\\\\ " * 990)]:
            self.both(("says", text), 'says "' + inner + '"')
            self.both(("not", ("noted", text)), 'not noted "' + inner + '"')


class TestRefusals(Texts):
    def test_no_tests(self):
        for thing in NO_TESTS:
            self.refused(NoTest, text_of_test, some_kinds(), thing)

    def test_no_tests_within(self):
        for thing in NO_TESTS[::3]:
            for outer in within(thing):
                self.refused(NoTest, text_of_test, some_kinds(), outer)

    def test_no_texts(self):
        for thing in NO_TEXTS + [GOOD, [GOOD], b"kind io"]:
            self.refused(NoText, read_test, some_kinds(), thing)

    def test_no_tests_texts(self):
        for text in NO_TESTS_TEXTS:
            self.refused(NoText, read_test, some_kinds(), text)

    def test_no_tests_texts_within(self):
        for text in NO_TESTS_TEXTS:
            for ahead in ["not ", "and kind io ", "or not kind io not "]:
                self.refused(NoText, read_test, some_kinds(), ahead + text)

    def test_a_sign_more_or_less(self):
        for test in [("says", 'a "b" \\'), ("and", IO, ("not", ("noted", "x"))), ("or", ("says", ""), NET)]:
            text = text_of_test(some_kinds(), test)
            for at in range(len(text) + 1):
                for changed in [text[:at] + text[at + 1:], text[:at] + " " + text[at:], text[:at] + '"' + text[at:],
                                text[:at] + "\\" + text[at:]]:
                    if changed != text:
                        self.never_the_same(changed, test)

    def never_the_same(self, text, test):
        """Refused, or read as another test that is written just so."""
        try:
            read = read_test(some_kinds(), text)
        except NoText:
            return
        self.assertNotEqual(read, test)
        self.assertEqual(text_of_test(some_kinds(), read), text)

    def test_kinds_that_lack(self):
        none = Kinds([])
        self.both(("kind", "sheaf"), "kind sheaf", none)
        self.refused(NoText, read_test, none, "kind io")
        self.refused(NoText, read_test, none, "not kind io")
        self.refused(NoText, read_test, none, 'or says "a" kind io')
        self.refused(NoTest, text_of_test, none, ("or", ("says", "a"), IO))

    def test_good_calls_behind_refused_ones(self):
        kinds = some_kinds()
        for _ in range(3):
            self.refused(NoText, read_test, kinds, 'says "a')
            self.both(IO, "kind io", kinds)
            self.refused(NoTest, text_of_test, kinds, ("kind",))
            self.both(("says", "a"), 'says "a"', kinds)


if __name__ == "__main__":
    unittest.main()
