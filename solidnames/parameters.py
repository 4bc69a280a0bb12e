"""Parameters: names with formulas that read one another."""

from solidnames.errors import InUse, InvalidName, InvalidNumber, Ring, TooMany, UnknownName
from solidnames.formulas import Formula
from solidnames.values import is_integer, is_parameter_name, is_within


class Parameters:
    """At most MOST names with formulas, none of which reads itself through others."""

    MOST = 40

    def __init__(self, **formulas):
        read = read_formulas(formulas)
        if len(read) > Parameters.MOST:
            raise TooMany(Parameters.MOST)
        for formula in list(read.values()):
            missing = formula.first_missing(read)
            if missing is not None:
                raise UnknownName(missing)
        found = results_of(read)
        self.names = tuple(sorted(read))
        # In one order, so that equal parameters are the same in everything.
        self._formulas = {name: read[name] for name in self.names}
        self._texts = {name: read[name].text for name in self.names}
        self._results = {name: found[name] for name in self.names}

    @property
    def results(self):
        """The results of all parameters, a new dict."""
        return dict(self._results)

    def __len__(self):
        return len(self.names)

    def __contains__(self, name):
        return isinstance(name, str) and name in self._formulas

    def __getitem__(self, name):
        if name not in self:
            raise UnknownName(name)
        return self._formulas[name]

    def __iter__(self):
        raise TypeError("parameters are read by their names")

    def __eq__(self, other):
        return isinstance(other, Parameters) and self._texts == other._texts

    def defined(self, name, text):
        """These parameters, with this formula for a new or an old name."""
        if not is_parameter_name(name):
            raise InvalidName(name)
        texts = dict(self._texts)
        texts[name] = text
        return Parameters(**texts)

    def without(self, name):
        """These parameters, but for one that no other reads."""
        if name not in self:
            raise UnknownName(name)
        for other in self.names:
            if name in self._formulas[other].names:
                raise InUse(other)
        texts = {other: self._texts[other] for other in self.names if other != name}
        return Parameters(**texts)

    def reached(self, name):
        """The other parameters that read this one, directly or through others."""
        if name not in self:
            raise UnknownName(name)
        reached = {name: True}
        # No formula reads itself, so a path to the name has at most as many steps as there are names.
        for _ in self.names:
            for other in self.names:
                if any([read in reached for read in self._formulas[other].names]):
                    reached[other] = True
        return tuple([other for other in self.names if other in reached and other != name])

    def varied(self, **values):
        """These parameters, with integers as the formulas of some."""
        for name in sorted(values):
            if name not in self:
                raise UnknownName(name)
        for name in sorted(values):
            if not is_integer(values[name]) or not is_within(values[name]):
                raise InvalidNumber(values[name])
        texts = dict(self._texts)
        for name in values:
            texts[name] = str(values[name])
        return Parameters(**texts)


def read_formulas(formulas):
    """A dict from the names to the Formulas."""
    read = {}
    for name, text in formulas.items():
        if not is_parameter_name(name):
            raise InvalidName(name)
        read[name] = Formula(text)
    return read


def results_of(formulas):
    """A dict from the names to their results, each behind those that it reads."""
    found = {}
    left = list(formulas)
    while left:
        ready = [name for name in left if formulas[name].first_missing(found) is None]
        if not ready:
            raise Ring(ring_among(formulas, left))
        for name in ready:
            found[name] = formulas[name].evaluate(found)
        left = [name for name in left if name not in found]
    return found


def ring_among(formulas, left):
    """A ring of names, from its least one; each name that is left reads another one that is left."""
    path = [min(left)]
    while True:
        following = [name for name in formulas[path[-1]].names if name in left][0]
        if following in path:
            ring = path[path.index(following):]
            least = ring.index(min(ring))
            return tuple(ring[least:] + ring[:least])
        path.append(following)
