"""Texts of programs and of tests, and what is read from such."""

from faultsheaves.errors import NoProgram, NoTest, NoText
from faultsheaves.fitting import is_test
from faultsheaves.programs import is_program
from faultsheaves.reading import as_program, as_test
from faultsheaves.writing import written, written_test


def program_text(kinds, program):
    """The text of a program by these kinds."""
    if not is_program(kinds, program):
        raise NoProgram("this is no program by these kinds")
    return written(program)


def read_program(kinds, text):
    """The program by these kinds that is written so."""
    program = as_program(kinds, text)
    if program is None:
        raise NoText("this is no program's text")
    return program


def text_of_test(kinds, test):
    """The text of a test by these kinds."""
    if not is_test(kinds, test):
        raise NoTest("this is no test by these kinds")
    return written_test(test)


def read_test(kinds, text):
    """The test by these kinds that is written so."""
    test = as_test(kinds, text)
    if test is None:
        raise NoText("this is no test's text")
    return test
