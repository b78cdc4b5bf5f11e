"""What was known of a thing behind each row."""

from kindsofday.versions import stretches


def values_behind_rows(plan, rows, thing, day, place):
    """List a thing's value on a day behind no row, one row, and so on to all of them."""
    dimension, key = thing
    kinds = {}
    # A thing that is not known has the values of one without kinds, so facts need no look.
    told = [value_on(plan, dimension, kinds, day, place)]
    for row in rows:
        if row[:3] == ("kind", dimension, key):
            kinds[row[3]] = row[4]
            told.append(value_on(plan, dimension, kinds, day, place))
        else:
            told.append(told[-1])
    return told


def value_on(plan, dimension, kinds, day, place):
    """Tell the value at this place of the version that a day belongs to."""
    versions = stretches(plan, dimension, list(kinds.items()))
    begun = [values for begin, end, values in versions if begin is None or begin <= day]
    return begun[-1][place]


def last_change(values):
    """Tell the first place from which on all values are what the last one is."""
    place = len(values) - 1
    while place > 0 and values[place - 1] == values[-1]:
        place -= 1
    return place
