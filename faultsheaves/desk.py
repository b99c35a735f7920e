"""A desk: it is told rows, and has kinds, a program and a house of both."""

from faultsheaves.checks import is_name, is_text, number_of
from faultsheaves.errors import NoRow
from faultsheaves.house import House
from faultsheaves.kinds import Kinds
from faultsheaves.programtexts import read_program
from faultsheaves.reading import as_test
from faultsheaves.roads import road
from faultsheaves.shown import shown

_PROGRAM = "program\n"


class Desk:
    """Kinds and a program, each of which may be told anew, and the house of both."""

    def __init__(self):
        self._pairs = []
        self._kinds = Kinds([])
        self._program = []
        self._house = House(self._kinds, self._program)

    def say(self, row):
        """What the desk answers to a row."""
        if not is_text(row):
            raise NoRow("a row is a text")
        if row.startswith(_PROGRAM):
            return self._begin(self._pairs, self._kinds, read_program(self._kinds, row[len(_PROGRAM):]))
        words = row.split(" ")
        if words[0] == "split" and len(words) > 2:
            # Behind the number all is the test, blanks and all.
            return self._split(_number(words[1]), " ".join(words[2:]))
        if words[0] == "kind" and len(words) == 3:
            return self._kind(_name(words[1]), _name(words[2]))
        if words[0] == "run" and len(words) == 2:
            return _words(self._house.run(_name(words[1])))
        if words[0] == "show" and len(words) == 2:
            return shown(self._house.ledger(), _number(words[1]))
        if words[0] == "road" and len(words) == 2:
            return self._road(_number(words[1]))
        if words == ["said"]:
            return "\n".join([event[1] for event in self._house.events() if event[0] == "say"])
        raise NoRow("this is no row")

    def _begin(self, pairs, kinds, program):
        """Begin a new house of these."""
        self._house = House(kinds, program)
        self._pairs = pairs
        self._kinds = kinds
        self._program = program
        return "ok"

    def _kind(self, name, above):
        pairs = self._pairs + [(name, above)]
        return self._begin(pairs, Kinds(pairs), self._program)

    def _road(self, k):
        marks = road(self._house.ledger(), self._house.events(), k)
        return ", ".join([_words(mark) for mark in marks])

    def _split(self, k, text):
        # What is no test's text is None, which is no test: the house refuses the fault first, then that.
        fit, left = self._house.split(k, as_test(self._kinds, text))
        return f"fit {_number_or_none(fit)}, left {_number_or_none(left)}"


def _name(word):
    """This word, where it is a NAME."""
    if not is_name(word):
        raise NoRow("this is no name")
    return word


def _number(word):
    """The number that this word writes."""
    number = number_of(word)
    if number is None:
        raise NoRow("this is no number")
    return number


def _words(told):
    """The words of a tuple with a blank between."""
    return " ".join([str(word) for word in told])


def _number_or_none(k):
    return "none" if k is None else str(k)
