"""Houses: they are told rows, and tell what these did and what is known."""

from kindsofday.errors import NoFact, NoGroup, NoThing, NoTime, NoWatch, Twice
from kindsofday.history import last_change, values_behind_rows
from kindsofday.plans import Plan, attribute_place, attributes_of, look, things_named
from kindsofday.things import Things
from kindsofday.watching import Watch, changed_lines, look_at_watch, sum_lines, tally


class House:
    """The kinds and facts of a plan, with the versions that the facts are led to."""

    def __init__(self, plan):
        self.plan = Plan(plan.dimensions(), plan.measures())
        self.things = Things(self.plan)
        self.kept_facts = {}
        self.told_rows = []
        self.watchers = {}

    def tell(self, row):
        """Take a row, and tell what it did."""
        look(self.plan, row)
        if row[0] == "forget" and row[1] not in self.kept_facts:
            raise NoFact(row[1])
        self.told_rows.append(row)
        if row[0] == "kind":
            return self.take_kind((row[1], row[2]), row[3], row[4])
        if row[0] == "fact":
            return self.take_fact(row[1], row[2], row[3], row[4])
        return self.take_forget(row[1])

    def take_kind(self, thing, day, values):
        """Take a kind, and tell how many versions came and went and how many facts are led anew."""
        days = self.fact_days(thing)
        ahead = [self.things.version_on(thing, fact_day)[0] for fact_day in days]
        came, went = self.things.take_kind(thing, day, values)
        behind = [self.things.version_on(thing, fact_day)[0] for fact_day in days]
        led = len([number for number, old in zip(behind, ahead) if number != old])
        return ("kind", came, went, led)

    def take_fact(self, name, day, keys, numbers):
        """Take a fact, and tell how many versions came and went and which ones it is led to."""
        replaced = []
        if name in self.kept_facts:
            replaced = things_named(self.plan, self.kept_facts[name][1])
        self.kept_facts[name] = (day, keys, numbers)
        came = sum([self.things.meet(thing) for thing in things_named(self.plan, keys)])
        went = self.part_from(replaced)
        return ("fact", came, went, self.led(day, keys))

    def take_forget(self, name):
        """Forget a fact, and tell how many versions went."""
        day, keys, numbers = self.kept_facts.pop(name)
        return ("forget", self.part_from(things_named(self.plan, keys)))

    def part_from(self, things):
        """Make those things unknown that nothing names any more; tell how many versions went."""
        gone = [thing for thing in things if thing not in self.things.kinds and not self.fact_days(thing)]
        return sum([self.things.part(thing) for thing in gone])

    def fact_days(self, thing):
        """List the days of the kept facts that name a thing."""
        facts = list(self.kept_facts.values())
        return [day for day, keys, numbers in facts if thing in things_named(self.plan, keys)]

    def led(self, day, keys):
        """Tell the numbers of the versions that a fact of this day and these keys is led to."""
        return tuple([self.things.version_on(thing, day)[0] for thing in things_named(self.plan, keys)])

    def begins(self, day, keys):
        """Tell where the versions begin that a fact of this day and these keys is led to."""
        return tuple([self.things.version_on(thing, day)[1] for thing in things_named(self.plan, keys)])

    def versions(self, dimension, key):
        """List a thing's versions (number, from, to, values), by rising days."""
        if not self.things.knows((dimension, key)):
            raise NoThing((dimension, key))
        return list(self.things.numbered[(dimension, key)])

    def keys_of(self, dimension):
        """List the known keys of a dimension, sorted."""
        if attributes_of(self.plan, dimension) is None:
            raise NoThing((dimension, None))
        return sorted([key for name, key in self.things.numbered if name == dimension])

    def facts(self):
        """List the facts (fact, day, keys, numbers, led), by their names."""
        told = []
        for name in sorted(list(self.kept_facts)):
            day, keys, numbers = self.kept_facts[name]
            told.append((name, day, keys, numbers, self.led(day, keys)))
        return told

    def rows(self):
        """List all rows that were told and not refused, in order."""
        return list(self.told_rows)

    def __len__(self):
        return len(self.told_rows)

    def __eq__(self, other):
        return (isinstance(other, House) and self.plan == other.plan
                and self.things.kinds == other.things.kinds and self.kept_facts == other.kept_facts)

    def __ne__(self, other):
        return not self == other

    def plain(self):
        """Tell the tables of the things and of the facts, without numbers."""
        things = []
        for dimension, attributes in self.plan.dimensions():
            for key in self.keys_of(dimension):
                versions = [(begin, end, values) for number, begin, end, values in self.versions(dimension, key)]
                things.append((dimension, key, versions))
        facts = [(name, day, keys, numbers, self.begins(day, keys)) for name, day, keys, numbers, led in self.facts()]
        return (things, facts)

    def watch(self, name, groups, *, measure=None):
        """Keep the sums of a measure by groups, under a name."""
        if name in self.watchers:
            raise Twice(name)
        look_at_watch(self.plan, groups, measure)
        self.watchers[name] = Watch(groups, measure, len(self.told_rows))

    def watches(self):
        """List the watches' names in the order in which they were told."""
        return list(self.watchers)

    def sums(self, name):
        """List a watch's sums as tuples (values, count, sum)."""
        return sum_lines(self.tally_of(name))

    def tally_of(self, name):
        """Tell a watch's counts and sums by the values of its groups."""
        if name not in self.watchers:
            raise NoWatch(name)
        return tally(self.things, list(self.kept_facts.values()), self.watchers[name])

    def news(self):
        """List the groups that the last row changed, as tuples (watch, values, count, sum)."""
        if not self.told_rows:
            return []
        earlier = self.known(len(self.told_rows) - 1)
        told = []
        for name in self.watches():
            if self.watchers[name].rows_ahead < len(self.told_rows):
                told.extend(changed_lines(name, earlier.tally_of(name), self.tally_of(name)))
        return told

    def known(self, many):
        """Tell the house as it was known behind so many rows."""
        if many < 0 or many > len(self.told_rows):
            raise NoTime(many)
        house = House(self.plan)
        for name in self.watches():
            house.watch(name, self.watchers[name].groups, measure=self.watchers[name].measure)
        for row in self.told_rows[:many]:
            house.tell(row)
        return house

    def since(self, dimension, key, day, attribute):
        """Tell behind how many rows a thing's value on a day became what it is and stayed so."""
        if not self.things.knows((dimension, key)):
            raise NoThing((dimension, key))
        place = attribute_place(self.plan, dimension, attribute)
        if place is None:
            raise NoGroup((dimension, attribute))
        return last_change(values_behind_rows(self.plan, self.told_rows, (dimension, key), day, place))
