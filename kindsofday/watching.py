"""What watches count: the groups of facts, their sums, and what changed in them."""

from kindsofday.errors import NoGroup, NoMeasure
from kindsofday.plans import attribute_place


class Watch:
    """The groups and the measure of a watch, and how many rows were told ahead of it."""

    def __init__(self, groups, measure, rows_ahead):
        self.groups = tuple(groups)
        self.measure = measure
        self.rows_ahead = rows_ahead


def look_at_watch(plan, groups, measure):
    """Refuse groups, then a measure, that the plan has not."""
    for dimension, attribute in groups:
        if attribute_place(plan, dimension, attribute) is None:
            raise NoGroup((dimension, attribute))
    # None asks for no measure; the empty text asks for one, and none is so called.
    if measure is not None and measure not in plan.measures():
        raise NoMeasure(measure)


def group_places(plan, groups):
    """List (dimension, place of its key, place of the attribute's value) of each group."""
    dimensions = [dimension for dimension, attributes in plan.dimensions()]
    return [
        (dimension, dimensions.index(dimension), attribute_place(plan, dimension, attribute))
        for dimension, attribute in groups
    ]


def tally(things, facts, watch):
    """Tell {values: (count, sum)} of facts (day, keys, numbers), as they are led now."""
    places = group_places(things.plan, watch.groups)
    counts = {}
    for day, keys, numbers in facts:
        values = tuple([
            things.version_on((dimension, keys[key_at]), day)[3][value_at]
            for dimension, key_at, value_at in places
        ])
        count, total = counts.get(values, (0, 0))
        counts[values] = (count + 1, total + measured(things.plan, numbers, watch.measure))
    return counts


def measured(plan, numbers, measure):
    """Tell a fact's number of a measure, 0 where there is no measure."""
    return 0 if measure is None else numbers[plan.measures().index(measure)]


def sorted_groups(groups):
    """List tuples of values as the sums are sorted: by the lists of their reprs."""
    return sorted(groups, key=reprs_of)


def reprs_of(values):
    """List the reprs of values."""
    return [repr(value) for value in values]


def sum_lines(counts):
    """List a tally as tuples (values, count, sum)."""
    lines = []
    for values in sorted_groups(list(counts)):
        count, total = counts[values]
        lines.append((values, count, total))
    return lines


def changed_lines(name, before, behind):
    """List the groups of which two tallies tell otherwise, as tuples (watch, values, count, sum)."""
    lines = []
    for values in sorted_groups(list(before) + [values for values in behind if values not in before]):
        if before.get(values) != behind.get(values):
            count, total = behind.get(values, (0, 0))
            lines.append((name, values, count, total))
    return lines
