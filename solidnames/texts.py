"""Texts of features and of parts, and the table of a part."""

from solidnames.nametexts import text_of_name


def feature_text(feature):
    """The lines of a feature."""
    return "\n".join(feature_lines(feature, True))


def part_text(part):
    """The lines of the parameters and of the features of a part."""
    rows = [f"let {name} {part.parameters[name].text}" for name in part.parameters.names]
    for feature in part.features:
        rows.extend(feature_lines(feature, part.is_on(feature.name)))
    return "\n".join(rows)


def table(part):
    """A line for each feature, with its status and the volume behind it."""
    rows = []
    for index, record in enumerate(part.result.records):
        feature = record.feature
        volume = record.behind.to_solid().volume
        rows.append(f"{index:>2} {feature.name:<8} {feature.kind:<6} {word_of(record.told):<8} {volume:,}")
    return "\n".join(rows)


def word_of(status):
    """The one word of a status, that of the failure if there is one."""
    return status[1] if status[0] == "failed" else status[0]


def feature_lines(feature, on):
    """The lines of a feature, which is on or off."""
    head = f"{feature.kind} {feature.name}" if on else f"{feature.kind} {feature.name} off"
    return [head] + argument_lines(feature)


def argument_lines(feature):
    """The lines behind the first one."""
    if feature.kind in ("add", "cut"):
        _, sketch, plane, extent, shift = feature.arguments
        return sketch_lines(sketch) + plane_lines(plane) + [extent_line(extent)] + [f"shift {text}" for text in shift]
    if feature.kind == "copy":
        steps = feature.arguments[2:]
        rows = [row for axis, far, count in steps for row in (f"axis {axis}", f"distance {far}", f"count {count}")]
        return [f"source {feature.source}", *rows]
    if feature.kind == "mirror":
        _, source, axis, text = feature.arguments
        return [f"source {source}", f"axis {axis}", f"at {text}"]
    if feature.kind == "push":
        _, pick, text = feature.arguments
        return [f"pick {text_of_name(pick)}", f"by {text}"]
    _, axis, text, side = feature.arguments
    return [f"axis {axis}", f"at {text}", f"side {side}"]


def sketch_lines(sketch):
    rows = [" ".join(["outline", *outline]) for outline in sketch.outlines]
    for side, other, text in sketch.dimensions:
        rows.append(" ".join(["dimension", side, "-" if other is None else other, text]))
    return rows


def plane_lines(plane):
    word, what, text = plane
    if word == "flat":
        return [f"flat {what} {text}"]
    return [f"on {text}", f"pick {text_of_name(what)}"]


def extent_line(extent):
    if extent[0] == "all":
        return "all"
    return f"to {text_of_name(extent[1])}" if extent[0] == "to" else f"{extent[0]} {extent[1]}"
