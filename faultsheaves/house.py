"""A house: it runs the bodies of a program, with one ledger for all runs."""

from faultsheaves.checks import is_text
from faultsheaves.errors import NoBody, NoProgram
from faultsheaves.ledger import Ledger
from faultsheaves.parts import split
from faultsheaves.programs import copied, is_program
from faultsheaves.runs import Run, done


class House:
    """A program, and the faults and events of all its runs."""

    def __init__(self, kinds, program):
        if not is_program(kinds, program):
            raise NoProgram("this is no program by these kinds")
        self._bodies = {name: copied(body) for name, body in program}
        self._faults = Ledger(kinds)
        self._told = []

    def run(self, name):
        """Run the body of this name: its outcome."""
        # A list or a dict can't be looked for in a dict, so only texts are.
        if not is_text(name) or name not in self._bodies:
            raise NoBody("no body has this name")
        self._told.append(("run", name))
        outcome = done(Run(self._bodies, self._faults, self._told), self._bodies[name], None)
        self._told.append(("end", outcome))
        return outcome

    def ledger(self):
        """A twin of the ledger."""
        return self._faults.twin()

    def split(self, k, test):
        """A fault of the ledger parted by a test: the parts stand in the ledger, too."""
        return split(self._faults, k, test)

    def events(self):
        """All that was told of all runs, in order."""
        return list(self._told)
