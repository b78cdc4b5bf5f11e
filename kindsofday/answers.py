"""How a desk writes what its house tells."""

from kindsofday.texts import show_value


def or_none(texts, between):
    """Join texts, or write none where there are none."""
    return between.join(texts) if texts else "none"


def show_told(told):
    """Write what a row told: its words and numbers, those of a fact's versions among them."""
    if told[0] != "fact":
        return " ".join([str(part) for part in told])
    word, came, went, numbers = told
    return " ".join([str(part) for part in (word, came, went) + numbers])


def show_version(version):
    """Write a version as NUMBER:FROM:TO:VALUES."""
    number, begin, end, values = version
    return f"{number}:{show_held(begin)}:{show_held(end)}:{show_values(values)}"


def show_values(values):
    """Write values with commas, or - where there are none."""
    return ",".join([show_held(value) for value in values]) if values else "-"


def show_held(value):
    """Write a value, a day, None, or a pair of the way before."""
    if value is None:
        return "-"
    if isinstance(value, tuple):
        return "|".join([show_held(part) for part in value])
    return show_value(value)


def show_fact(fact):
    """Write a fact as its name with the numbers of the versions that it is led to."""
    name, day, keys, numbers, led = fact
    return name + ":" + ",".join([str(number) for number in led])


def show_sum(line):
    """Write a group of a watch as VALUES:COUNT:SUM."""
    values, count, total = line
    return f"{show_values(values)}:{count}:{total}"


def show_news(line):
    """Write a group that changed as its watch's name and what show_sum writes."""
    return line[0] + ":" + show_sum(line[1:])


def count_versions(house):
    """Tell how many versions there are of all things."""
    things, facts = house.plain()
    return sum([len(versions) for dimension, key, versions in things])
