"""Plans and rows, read from their writings."""

from kindsofday.errors import NoPlan, NoText
from kindsofday.names import FIGURES, is_key, is_made_of
from kindsofday.plans import Plan, attributes_of

WAYS = ("first", "last", "day", "before")
MOST_FIGURES = 60


def read_plan(text):
    """Read a plan."""
    parts = text.split("; ")
    measures = []
    if parts[-1].startswith("sum "):
        measures = parts[-1].split(" ")[1:]
        parts = parts[:-1]
    dimensions = [read_dimension(part) for part in parts]
    if None in dimensions:
        raise NoText(text)
    try:
        plan = Plan(dimensions, measures)
    except NoPlan:
        raise NoText(text) from None
    return plan


def read_dimension(part):
    """Read a dimension with its attributes, or tell None."""
    words = part.split(" ")
    if len(words) < 2 or words[0] != "dim":
        return None
    attributes = [tuple(word.split(":")) for word in words[2:]]
    if not all([len(attribute) == 2 and attribute[1] in WAYS for attribute in attributes]):
        return None
    return (words[1], tuple(attributes))


def read_rows(plan, text):
    """Read rows of a plan."""
    if text == "-":
        return []
    rows = [read_row(plan, part.split(" ")) for part in text.split("; ")]
    if None in rows:
        raise NoText(text)
    return rows


def read_row(plan, words):
    """Read a row from its words, or tell None."""
    if words[0] == "kind":
        return read_kind(plan, words)
    if words[0] == "fact":
        return read_fact(plan, words)
    if words[0] == "forget" and len(words) == 2 and is_key(words[1]):
        return ("forget", words[1])
    return None


def read_kind(plan, words):
    """Read a kind from its words, or tell None."""
    if len(words) < 4:
        return None
    dimension, key = words[1], words[2]
    attributes = attributes_of(plan, dimension)
    if attributes is None or not is_key(key) or len(words) != 4 + len(attributes):
        return None
    day = read_number(words[3])
    values = [read_value(word) for word in words[4:]]
    if day is None or None in values:
        return None
    return ("kind", dimension, key, day, tuple(values))


def read_fact(plan, words):
    """Read a fact from its words, or tell None."""
    keys_end = 3 + len(plan.dimensions())
    if len(words) != keys_end + len(plan.measures()):
        return None
    name, keys = words[1], words[3:keys_end]
    if not all([is_key(word) for word in [name] + keys]):
        return None
    day = read_number(words[2])
    numbers = [read_number(word) for word in words[keys_end:]]
    if day is None or None in numbers:
        return None
    return ("fact", name, day, tuple(keys), tuple(numbers))


def read_value(word):
    """Read a text between apostrophes or a number, or tell None."""
    if word.startswith("'") and word.endswith("'") and is_key(word[1:-1]):
        return word[1:-1]
    return read_number(word)


def read_number(word):
    """Read a whole number in its one writing, or tell None."""
    figures = word.removeprefix("-")
    if not 1 <= len(figures) <= MOST_FIGURES or not is_made_of(figures, FIGURES):
        return None
    number = int(word)
    # A 0 ahead and -0 write a number that has another writing.
    return number if str(number) == word else None
