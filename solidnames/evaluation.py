"""Evaluates features, one behind another."""

from solidnames.errors import OutOfBounds, TooMany
from solidnames.failures import Failure
from solidnames.marked import nothing
from solidnames.skins import Skin
from solidnames.tools import copies_of, faces_picked, keep_tool, mirror_tool, prism_tool, push_tool, values_of


class Record:
    """What a feature gave: told is its status, before and behind the marked solids around it.

    The tool is that of an Add or a Cut, otherwise None.
    """

    def __init__(self, feature, told, before, behind, tool):
        self.feature = feature
        self.told = told
        self.before = before
        self.behind = behind
        self.tool = tool


def records_of(results, entries):
    """The Records of entries, tuples of a feature and whether it is on."""
    records = []
    sources = {}
    marked = nothing()
    for feature, on in entries:
        record = record_of(feature, on, marked, results, sources)
        if record.tool is not None:
            sources[feature.name] = record
        records.append(record)
        marked = record.behind
    return tuple(records)


def record_of(feature, on, ahead, results, sources):
    """The Record of a feature; sources has those of the Adds and Cuts ahead that are well."""
    if not on:
        return Record(feature, ("off",), ahead, ahead, None)
    try:
        behind, tool = outcome_of(feature, ahead, results, sources)
    except Failure as failure:
        return Record(feature, ("failed", failure.word, failure.detail), ahead, ahead, None)
    except OutOfBounds:
        return Record(feature, ("failed", "range", None), ahead, ahead, None)
    except TooMany:
        return Record(feature, ("failed", "lines", None), ahead, ahead, None)
    return Record(feature, ("ok",), ahead, behind, tool)


def outcome_of(feature, ahead, results, sources):
    """The marked solid behind a feature, and its tool if it may be a source."""
    if feature.source is not None:
        return behind_source(feature, ahead, results, sources), None
    if feature.kind == "keep":
        return ahead.met(keep_tool(feature, results)), None
    if feature.kind == "push":
        return pushed(feature, ahead, results), None
    tool = prism_tool(feature, Skin(ahead) if feature.picks else None, results)
    return operated(ahead, tool, feature.kind), tool


def behind_source(feature, ahead, results, sources):
    """The marked solid behind a Copy or a Mirror."""
    if feature.source not in sources:
        raise Failure("source", feature.source)
    source = sources[feature.source]
    if feature.kind == "copy":
        tools = copies_of(feature, source.tool, results)
    else:
        tools = [mirror_tool(feature, source.tool, results)]
    marked = ahead
    for tool in tools:
        marked = operated(marked, tool, source.feature.kind)
    return marked


def pushed(feature, ahead, results):
    """The marked solid behind a Push."""
    value = values_of(feature.formulas, results)[0]
    skin = Skin(ahead)
    index = faces_picked(skin, feature.picks)[0]
    if value == 0:
        return ahead
    return operated(ahead, push_tool(skin, index, value, feature.name), "add" if value > 0 else "cut")


def operated(marked, tool, kind):
    """The marked solid joined with the tool, or cut by it."""
    return marked.joined(tool) if kind == "add" else marked.cut(tool)
