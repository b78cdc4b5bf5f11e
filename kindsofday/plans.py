"""Plans, and whether a row has the form that a plan asks for."""

from kindsofday.errors import NoPlan, NoRow
from kindsofday.names import is_name

MOST_DIMENSIONS = 4
MOST_ATTRIBUTES = 5
MOST_MEASURES = 4


class Plan:
    """The dimensions with their attributes and ways, and the measures."""

    def __init__(self, dimensions, measures=()):
        fault = first_fault(dimensions, measures)
        if fault is not None:
            raise NoPlan(fault)
        self.dimension_list = [(name, tuple(attributes)) for name, attributes in dimensions]
        self.measure_list = list(measures)

    def dimensions(self):
        """List the tuples (dimension, attributes), as they were handed in."""
        return list(self.dimension_list)

    def measures(self):
        """List the measures' names, as they were handed in."""
        return list(self.measure_list)

    def __eq__(self, other):
        return (isinstance(other, Plan) and self.dimension_list == other.dimension_list
                and self.measure_list == other.measure_list)

    def __ne__(self, other):
        return not self == other


def first_fault(dimensions, measures):
    """Tell the word of the first faulty part, or None."""
    names = [name for name, attributes in dimensions]
    if not names or are_faulty(names, MOST_DIMENSIONS):
        return "dimensions"
    for name, attributes in dimensions:
        if are_faulty([attribute for attribute, way in attributes], MOST_ATTRIBUTES):
            return "attributes"
    if are_faulty(measures, MOST_MEASURES):
        return "measures"
    return None


def are_faulty(names, most):
    """Tell whether names are too many, or one is none or stands twice."""
    if len(names) > most or len(set(names)) < len(names):
        return True
    return not all([is_name(name) for name in names])


def attributes_of(plan, dimension):
    """Tell a dimension's tuple of (attribute, way), or None where the plan has no such dimension."""
    for name, attributes in plan.dimensions():
        if name == dimension:
            return attributes
    return None


def attribute_place(plan, dimension, attribute):
    """Tell at which place a dimension has an attribute, or None where the plan has no such one."""
    attributes = attributes_of(plan, dimension)
    if attributes is None:
        return None
    names = [name for name, way in attributes]
    return names.index(attribute) if attribute in names else None


def things_named(plan, keys):
    """List the things (dimension, key) that a fact's keys name, in the plan's order."""
    return [(dimension, key) for (dimension, attributes), key in zip(plan.dimensions(), keys)]


def look(plan, row):
    """Refuse a row that does not have the form that the plan asks for."""
    if not has_form(plan, row):
        raise NoRow(row)


def has_form(plan, row):
    """Tell whether a row fits the plan."""
    if row[0] == "kind":
        return kind_fits(plan, row[1], row[4])
    if row[0] == "fact":
        return fact_fits(plan, row[3], row[4])
    # A plan knows no facts, so it can say nothing of the one to be forgotten.
    return row[0] == "forget"


def kind_fits(plan, dimension, values):
    """Tell whether the plan has the dimension, with an attribute for each value."""
    attributes = attributes_of(plan, dimension)
    return attributes is not None and len(values) == len(attributes)


def fact_fits(plan, keys, numbers):
    """Tell whether there is a key for each dimension and a number for each measure."""
    return len(keys) == len(plan.dimensions()) and len(numbers) == len(plan.measures())
