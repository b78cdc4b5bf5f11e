"""The versions of a thing, made from its kinds."""

from kindsofday.errors import NoThing
from kindsofday.plans import attributes_of


def stretches(plan, dimension, kinds):
    """List the versions (from, to, values) of a thing with these kinds, by rising days."""
    attributes = attributes_of(plan, dimension)
    if attributes is None:
        raise NoThing((dimension, None))
    ways = [way for attribute, way in attributes]
    ordered = sorted(kinds, key=lambda kind: kind[0])
    openers = opening_kinds(ways, ordered)
    cuts = [day for day, values in openers]
    # The first version is opened by no kind: it lies ahead of all that is known.
    opened_with = [None] + [values for day, values in openers]
    # Only the way day tells versions apart, so the values of the others are found once.
    steady = [steady_value(way, [values[at] for day, values in ordered]) for at, way in enumerate(ways)]
    return [
        (begin, end, version_values(ways, steady, opening))
        for begin, end, opening in zip([None] + cuts, cuts + [None], opened_with)
    ]


def opening_kinds(ways, ordered):
    """List the kinds, out of those by rising days, at which the days are cut."""
    openers = ordered[:1]
    for ahead, kind in zip(ordered, ordered[1:]):
        if changes_day(ways, ahead[1], kind[1]):
            openers.append(kind)
    return openers


def changes_day(ways, old, new):
    """Tell whether some attribute of the way day has another value."""
    return any([way == "day" and old[at] != new[at] for at, way in enumerate(ways)])


def version_values(ways, steady, opening):
    """Tell the values of the version that a kind with the values `opening` begins."""
    return tuple([day_value(at, opening) if way == "day" else steady[at] for at, way in enumerate(ways)])


def day_value(at, opening):
    """Tell what the kind that begins a version has at this place, None where no kind does."""
    return None if opening is None else opening[at]


def steady_value(way, column):
    """Tell the value that all versions have, by the values of the kinds by rising days."""
    if way == "before":
        return last_and_unlike(column)
    if not column:
        return None
    return column[0] if way == "first" else column[-1]


def last_and_unlike(column):
    """Tell the last value and the last one that is unlike it, None for what is not there."""
    if not column:
        return (None, None)
    last = column[-1]
    unlike = [value for value in column if value != last]
    return (last, unlike[-1] if unlike else None)
