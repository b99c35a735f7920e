"""The refusals: each stands straight under FaultError, none under another one."""

import unittest

from faultsheaves.errors import (
    Empty, FaultError, NoBody, NoFault, NoKind, NoProgram, NoRow, NoTest, NoText, NoWay,
)

NINE = [NoKind, NoText, NoFault, Empty, NoWay, NoTest, NoProgram, NoBody, NoRow]


def caught_by(error, text, handler):
    """Whether the error, made of the text and raised, is caught by this handler."""
    try:
        try:
            raise error(text)
        except handler:
            return True
    except Exception:
        return False


class TestErrors(unittest.TestCase):
    def test_names(self):
        names = ["NoKind", "NoText", "NoFault", "Empty", "NoWay", "NoTest", "NoProgram", "NoBody", "NoRow"]
        self.assertEqual([error.__name__ for error in NINE], names)
        self.assertEqual(FaultError.__name__, "FaultError")

    def test_fault_error_is_straight_under_value_error(self):
        self.assertEqual(FaultError.__bases__, (ValueError,))

    def test_each_is_straight_under_fault_error(self):
        for error in NINE:
            with self.subTest(error=error):
                self.assertEqual(error.__bases__, (FaultError,))

    def test_none_is_another_one(self):
        for error in NINE:
            made = error("a text")
            kinds_of = [other for other in NINE if isinstance(made, other)]
            self.assertEqual(kinds_of, [error])
            self.assertIsInstance(made, FaultError)
            self.assertIsInstance(made, ValueError)

    def test_made_of_a_text(self):
        for error in NINE + [FaultError]:
            for text in ["", "a text"]:
                self.assertEqual(str(error(text)), text)

    def test_each_is_caught_by_its_own_and_those_above(self):
        for error in NINE:
            for handler in [error, FaultError, ValueError]:
                with self.subTest(error=error, handler=handler):
                    self.assertTrue(caught_by(error, "a text", handler))

    def test_none_is_caught_by_another_one(self):
        for error in NINE:
            for handler in [other for other in NINE if other is not error]:
                with self.subTest(error=error, handler=handler):
                    self.assertFalse(caught_by(error, "a text", handler))

    def test_fault_error_itself_is_caught_by_none_of_the_nine(self):
        for handler in NINE:
            self.assertFalse(caught_by(FaultError, "a text", handler))
        self.assertTrue(caught_by(FaultError, "a text", FaultError))
        self.assertTrue(caught_by(FaultError, "a text", ValueError))


if __name__ == "__main__":
    unittest.main()
