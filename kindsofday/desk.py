"""A desk: it is told rows of its own, answers them, and keeps a book of them."""

from kindsofday.answers import count_versions, or_none, show_fact, show_news, show_sum, show_told, show_version
from kindsofday.deskrows import read_desk_row
from kindsofday.errors import DayError, NoDeskRow
from kindsofday.houses import House
from kindsofday.readings import read_plan, read_rows

FIRST_PLAN = "dim ware kind:day; sum coins"


def answer_plan(desk, text):
    """Begin with a new house."""
    desk.house = House(read_plan(text))
    return "ok"


def answer_tell(desk, text):
    """Tell the house rows, all of them or none."""
    rows = read_rows(desk.house.plan, text)
    # A house of the same rows is told first: what it refuses never reaches the desk's own.
    trial = desk.house.known(len(desk.house))
    for row in rows:
        trial.tell(row)
    return or_none([show_told(desk.house.tell(row)) for row in rows], "; ")


def answer_watch(desk, name, measure, groups):
    """Tell the house of a watch."""
    desk.house.watch(name, groups, measure=measure)
    return "ok"


def answer_versions(desk, dimension, key):
    """Write the versions of a thing."""
    return or_none([show_version(version) for version in desk.house.versions(dimension, key)], " ")


def answer_facts(desk):
    """Write the facts."""
    return or_none([show_fact(fact) for fact in desk.house.facts()], " ")


def answer_sums(desk, name):
    """Write the sums of a watch."""
    return or_none([show_sum(line) for line in desk.house.sums(name)], " ")


def answer_news(desk):
    """Write the news."""
    return or_none([show_news(line) for line in desk.house.news()], " ")


def answer_known(desk, many):
    """Write how many versions there were behind so many rows."""
    return str(count_versions(desk.house.known(many)))


def answer_since(desk, dimension, key, day, attribute):
    """Write behind how many rows a value became what it is."""
    return str(desk.house.since(dimension, key, day, attribute))


def answer_rows(desk):
    """Write how many rows were told."""
    return str(len(desk.house))


ACTIONS = {
    "plan": answer_plan,
    "tell": answer_tell,
    "watch": answer_watch,
    "versions": answer_versions,
    "facts": answer_facts,
    "sums": answer_sums,
    "news": answer_news,
    "known": answer_known,
    "since": answer_since,
    "rows": answer_rows,
}


class Desk:
    """A house that is told and asked in texts."""

    def __init__(self):
        self.house = House(read_plan(FIRST_PLAN))
        self.entries = []

    def say(self, row):
        """Take a row and answer it."""
        try:
            answer = self.answer(row)
        except DayError as refusal:
            self.entries.append((row, None, refusal.name))
            raise
        self.entries.append((row, answer, None))
        return answer

    def answer(self, row):
        """Answer a row, or refuse it."""
        told = read_desk_row(row)
        if told is None:
            raise NoDeskRow(row)
        word, parts = told
        action = ACTIONS[word]
        return action(self, *parts)

    def book(self):
        """List the tuples (row, answer, refusal) of all rows that were told."""
        return list(self.entries)
