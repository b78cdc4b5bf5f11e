"""The writings of plans and of rows."""


def show_plan(plan):
    """Write a plan."""
    parts = [show_dimension(name, attributes) for name, attributes in plan.dimensions()]
    measures = plan.measures()
    if measures:
        parts.append(" ".join(["sum"] + measures))
    return "; ".join(parts)


def show_dimension(name, attributes):
    """Write a dimension with its attributes and their ways."""
    return " ".join(["dim", name] + [f"{attribute}:{way}" for attribute, way in attributes])


def show_rows(rows):
    """Write rows."""
    if not rows:
        return "-"
    return "; ".join([" ".join(row_words(row)) for row in rows])


def row_words(row):
    """List the words of a row."""
    if row[0] == "kind":
        word, dimension, key, day, values = row
        return [word, dimension, key, str(day)] + [show_value(value) for value in values]
    if row[0] == "fact":
        word, name, day, keys, numbers = row
        return [word, name, str(day)] + list(keys) + [str(number) for number in numbers]
    return list(row)


def show_value(value):
    """Write a value: a text between apostrophes, a number in figures."""
    return f"'{value}'" if isinstance(value, str) else str(value)
