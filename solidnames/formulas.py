"""Formulas over integers and parameters."""

from solidnames.errors import NotLinear, ParseError, UnknownName
from solidnames.grammar import Reader
from solidnames.operations import evaluated
from solidnames.slopes import LINEAR, OTHER, dependence_of, slope_and_rest

MOST_CHARACTERS = 100


class Formula:
    """A formula; names are the parameters that it reads, ascending."""

    def __init__(self, text):
        if not isinstance(text, str):
            raise ParseError(0)
        if len(text) > MOST_CHARACTERS:
            raise ParseError(MOST_CHARACTERS)
        self.text = text
        self._code = tuple(Reader(text).read())
        # In the order of the text, for the first one that is unknown.
        self._reads = tuple([what for kind, what in self._code if kind == "parameter"])
        self.names = tuple(sorted(set(self._reads)))

    def __eq__(self, other):
        return isinstance(other, Formula) and self.text == other.text

    def first_missing(self, known):
        """The first parameter in the text that is not among the known ones, or None."""
        missing = [name for name in self._reads if name not in known]
        return missing[0] if missing else None

    def evaluate(self, results):
        """The result, from a dict of the results of parameters."""
        missing = self.first_missing(results)
        if missing is not None:
            raise UnknownName(missing)
        return evaluated(self._code, results)

    def linear(self, name, results):
        """The tuple (slope, rest) of a formula that is linear in the parameter."""
        missing = self.first_missing([name, *results])
        if missing is not None:
            raise UnknownName(missing)
        if self.dependence({name: LINEAR}) == OTHER:
            raise NotLinear(name)
        return slope_and_rest(self._code, name, results)

    def dependence(self, known):
        """How it depends on a parameter, when known tells how this one and others do."""
        return dependence_of(self._code, known)
