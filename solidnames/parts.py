"""Parts: parameters and features that may be changed at any time."""

from solidnames.errors import (
    DuplicateName, InUse, InvalidIndex, NotFeature, NotFlag, NothingToRedo, NothingToUndo, TooMany, UnknownName)
from solidnames.evaluation import records_of
from solidnames.features import Feature
from solidnames.limits import MAX_FEATURES
from solidnames.marked import nothing
from solidnames.meanings import meaning_in
from solidnames.parameters import Parameters
from solidnames.picks import resolve
from solidnames.skins import Skin
from solidnames.values import is_integer


class Result:
    """All that features gave, with certain results of parameters."""

    def __init__(self, results, records):
        self.marked = records[-1].behind if records else nothing()
        self.records = records
        self._results = results
        self._statuses = [(record.feature.name, record.told) for record in records]
        self._behind = [record.behind for record in records]

    @property
    def results(self):
        """The results of the parameters, ascending, a new dict."""
        return dict(self._results)

    def __eq__(self, other):
        return (isinstance(other, Result) and self._results == other._results
                and self._statuses == other._statuses and self._behind == other._behind)

    def status(self, name):
        return self._told_by(name).told

    def ahead(self, name):
        """The Marked ahead of a feature."""
        return self._told_by(name).before

    def outcomes(self, name):
        """What the picks of a feature mean ahead of it."""
        record = self._told_by(name)
        if not record.feature.picks:
            return ()
        skin = Skin(record.before)
        return tuple([meaning_in(skin, pick) for pick in record.feature.picks])

    def resolve(self, pick):
        """What a pick means behind all features."""
        return resolve(self.marked, pick)

    def _told_by(self, name):
        for record in self.records:
            if record.feature.name == name:
                return record
        raise UnknownName(name)


class State:
    """A part at one time; entries are tuples of a feature and whether it is on."""

    def __init__(self, settings, entries):
        self.settings = settings
        self.entries = entries
        results = settings.results
        self.outcome = Result(results, records_of(results, entries))


class Part:
    """A list of features, with parameters; each edit is a step that can be undone."""

    def __init__(self):
        self._state = State(Parameters(), ())
        self._past = ()
        self._future = ()

    @property
    def parameters(self):
        return self._state.settings

    @property
    def features(self):
        """The features in their order, a tuple."""
        return tuple([feature for feature, _ in self._state.entries])

    @property
    def result(self):
        return self._state.outcome

    @property
    def steps(self):
        """The number of steps that can be undone."""
        return len(self._past)

    def __len__(self):
        return len(self._state.entries)

    def __contains__(self, name):
        return isinstance(name, str) and any([feature.name == name for feature, _ in self._state.entries])

    def __getitem__(self, name):
        for feature, _ in self._state.entries:
            if feature.name == name:
                return feature
        raise UnknownName(name)

    def __iter__(self):
        raise TypeError("features are read by their names")

    def __eq__(self, other):
        return (isinstance(other, Part) and self._state.settings == other._state.settings
                and self._state.entries == other._state.entries)

    def is_on(self, name):
        return self._state.entries[self._place(name)][1]

    def define(self, name, text):
        """Gives a new or an old parameter this formula."""
        return self._edit(self.parameters.defined(name, text), self._state.entries)

    def drop(self, name):
        """Takes a parameter away."""
        settings = self.parameters.without(name)
        for feature in self.features:
            if name in feature.reads:
                raise InUse(feature.name)
        return self._edit(settings, self._state.entries)

    def put(self, index, feature):
        """Puts a feature in, so that it has this index."""
        if not isinstance(feature, Feature):
            raise NotFeature(feature)
        check_index(index, len(self) + 1)
        if feature.name in self:
            raise DuplicateName(feature.name)
        if len(self) == MAX_FEATURES:
            raise TooMany(MAX_FEATURES)
        check_reads(feature, self.parameters)
        return self._edit(self.parameters, with_entry(self._state.entries, index, (feature, True)))

    def replace(self, feature):
        """Puts a feature in the place of the one with its name."""
        if not isinstance(feature, Feature):
            raise NotFeature(feature)
        place = self._place(feature.name)
        check_reads(feature, self.parameters)
        return self._edit(self.parameters, with_other(self._state.entries, place, (feature, self.is_on(feature.name))))

    def take(self, name):
        """Takes a feature out."""
        return self._edit(self.parameters, without_entry(self._state.entries, self._place(name)))

    def move(self, name, index):
        """Takes a feature out and puts it in again, so that it has this index."""
        place = self._place(name)
        check_index(index, len(self))
        entries = self._state.entries
        return self._edit(self.parameters, with_entry(without_entry(entries, place), index, entries[place]))

    def switch(self, name, on):
        """Switches a feature on or off."""
        place = self._place(name)
        if not isinstance(on, bool):
            raise NotFlag(on)
        return self._edit(self.parameters, with_other(self._state.entries, place, (self[name], on)))

    def undo(self):
        """Takes the last step back."""
        if not self._past:
            raise NothingToUndo()
        self._future = (self._state, *self._future)
        self._state = self._past[-1]
        self._past = self._past[:-1]

    def redo(self):
        """Does the step again that was taken back last."""
        if not self._future:
            raise NothingToRedo()
        self._past = (*self._past, self._state)
        self._state = self._future[0]
        self._future = self._future[1:]

    def attempt(self, call):
        """What the call returns; if an error leaves it, the part is as it was before."""
        state, past, future = self._state, self._past, self._future
        done = None
        try:
            answer = call(self)
            done = True
            return answer
        finally:
            if done is None:
                self._state, self._past, self._future = state, past, future

    def explore(self, call):
        """What the call returns; afterwards the part is as it was before."""
        state, past, future = self._state, self._past, self._future
        try:
            return call(self)
        finally:
            self._state, self._past, self._future = state, past, future

    def variant(self, **values):
        """The Result with integers for some parameters."""
        results = self.parameters.varied(**values).results
        return Result(results, records_of(results, self._state.entries))

    def solids(self):
        """Yields the tuples (name, status, Marked behind the feature)."""
        for record in self._state.outcome.records:
            yield (record.feature.name, record.told, record.behind)

    def _place(self, name):
        for place, feature in enumerate(self.features):
            if feature.name == name:
                return place
        raise UnknownName(name)

    def _edit(self, settings, entries):
        """Makes a step; the names of the features that it touches."""
        before = self._state
        state = State(settings, entries)
        self._state, self._past, self._future = state, (*self._past, before), ()
        return touched_names(before.outcome.records, state.outcome.records)


def part_of(settings, entries):
    """The Part with these parameters and entries, without steps."""
    part = Part()
    part._state = State(settings, entries)
    return part


def check_index(index, many):
    if not is_integer(index) or not 0 <= index < many:
        raise InvalidIndex(index)


def check_reads(feature, parameters):
    """All parameters that a feature reads are there."""
    for name in feature.reads:
        if name not in parameters:
            raise UnknownName(name)


def with_entry(entries, index, entry):
    return (*entries[:index], entry, *entries[index:])


def with_other(entries, index, entry):
    return (*entries[:index], entry, *entries[index + 1:])


def without_entry(entries, index):
    return (*entries[:index], *entries[index + 1:])


def touched_names(before, records):
    """The names of the records that are not as they were."""
    known = {record.feature.name: record for record in before}
    touched = []
    for record in records:
        name = record.feature.name
        if name not in known or known[name].told != record.told or known[name].behind != record.behind:
            touched.append(name)
    return touched
