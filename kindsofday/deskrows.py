"""The rows of a desk, read into their words."""

from kindsofday.names import is_key, is_name
from kindsofday.readings import read_number

# What stands behind the first word of a row, word by word.
FORMS = {
    "versions": ("name", "key"),
    "facts": (),
    "sums": ("name",),
    "news": (),
    "known": ("number",),
    "since": ("name", "key", "number", "name"),
    "rows": (),
}
MOST_GROUPS = 4


def read_desk_row(row):
    """Read a row into its first word and a list of what stands behind it, or tell None."""
    word, blank, rest = row.partition(" ")
    if word in ("plan", "tell"):
        return (word, [rest]) if blank else None
    words = row.split(" ")
    told = read_watch(words[1:]) if word == "watch" else read_form(word, words[1:])
    return None if told is None else (word, told)


def read_form(word, words):
    """Read the words behind the first one as its form asks, or tell None."""
    form = FORMS.get(word)
    if form is None or len(words) != len(form):
        return None
    told = [read_part(part, told_word) for part, told_word in zip(form, words)]
    return None if None in told else told


def read_part(part, word):
    """Read a word as a name, a key or a number, or tell None."""
    if part == "number":
        return read_number(word)
    fits = is_name(word) if part == "name" else is_key(word)
    return word if fits else None


def read_watch(words):
    """Read a watch's name, its measure (None where it has none) and its groups, or tell None."""
    if not 2 <= len(words) <= 2 + MOST_GROUPS or not is_name(words[0]):
        return None
    if words[1] != "-" and not is_name(words[1]):
        return None
    groups = [tuple(word.split(".")) for word in words[2:]]
    if not all([is_group(group) for group in groups]):
        return None
    return [words[0], None if words[1] == "-" else words[1], tuple(groups)]


def is_group(parts):
    """Tell whether the parts of a word are the names of a dimension and an attribute."""
    return len(parts) == 2 and is_name(parts[0]) and is_name(parts[1])
