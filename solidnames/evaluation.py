"""Evaluates features, one behind another."""

from solidnames.errors import OutOfBounds, TooMany
from solidnames.failures import Failure
from solidnames.marked import nothing
from solidnames.skins import Skin
from solidnames.tools import copies_of, faces_picked, keep_tool, mirror_tool, prism_tool, push_tool, values_of


class Record:
    """What a feature gave: told is its status, before and behind the marked solids around it.

    The tools are those with which it changed the solid, in their order.
    """

    def __init__(self, feature, told, before, behind, tools):
        self.feature = feature
        self.told = told
        self.before = before
        self.behind = behind
        self.tools = tools


def records_of(results, entries):
    """The Records of entries, tuples of a feature and whether it is on."""
    records = []
    sources = {}
    marked = nothing()
    for feature, on in entries:
        record = record_of(feature, on, marked, results, sources)
        if feature.kind in ("add", "cut") and record.tools:
            sources[feature.name] = record
        records.append(record)
        marked = record.behind
    return tuple(records)


def record_of(feature, on, ahead, results, sources):
    """The Record of a feature; sources has those of the Adds and Cuts ahead that are well."""
    if not on:
        return Record(feature, ("off",), ahead, ahead, ())
    try:
        word, tools = work_of(feature, ahead, results, sources)
        behind = ahead
        for tool in tools:
            behind = operated(behind, tool.marked, word)
    except Failure as failure:
        return Record(feature, ("failed", failure.word, failure.detail), ahead, ahead, ())
    except OutOfBounds:
        return Record(feature, ("failed", "range", None), ahead, ahead, ())
    except TooMany:
        return Record(feature, ("failed", "lines", None), ahead, ahead, ())
    return Record(feature, ("ok",), ahead, behind, tuple(tools))


def work_of(feature, ahead, results, sources):
    """What a feature does with the solid, a word, and the list of the tools with which it does it."""
    if feature.source is not None:
        if feature.source not in sources:
            raise Failure("source", feature.source)
        source = sources[feature.source]
        if feature.kind == "copy":
            return source.feature.kind, copies_of(feature, source.tools[0], results)
        return source.feature.kind, [mirror_tool(feature, source.tools[0], results)]
    if feature.kind == "keep":
        return "keep", [keep_tool(feature, results)]
    if feature.kind == "push":
        value = values_of(feature.formulas, results)[0]
        skin = Skin(ahead)
        index = faces_picked(skin, feature.picks)[0]
        return "add" if value > 0 else "cut", [push_tool(skin, index, value, feature.name)]
    return feature.kind, [prism_tool(feature, Skin(ahead) if feature.picks else None, results)]


def operated(marked, tool, word):
    """The marked solid joined with the tool, cut by it, or met with it."""
    if word == "add":
        return marked.joined(tool)
    return marked.cut(tool) if word == "cut" else marked.met(tool)
