"""A slow house by the document's words: all is made anew behind each row."""


class Model:
    """Kept kinds and facts of a plan, told as lists of dimensions and measures."""

    def __init__(self, dimensions, measures):
        self.dimensions = dimensions
        self.measures = measures
        self.kinds = {}
        self.facts = {}
        self.numbers = {}
        self.last_number = 0

    def ways(self, dimension):
        return [way for attribute, way in dict(self.dimensions)[dimension]]

    def known_things(self):
        """All known things, dimension by dimension, keys sorted."""
        things = []
        for at, (dimension, attributes) in enumerate(self.dimensions):
            keys = {key for name, key, day in self.kinds if name == dimension}
            keys |= {fact_keys[at] for day, fact_keys, numbers in self.facts.values()}
            things += [(dimension, key) for key in sorted(keys)]
        return things

    def kinds_of(self, thing):
        return {day: values for (dimension, key, day), values in self.kinds.items() if (dimension, key) == thing}

    def cuts(self, thing):
        held = self.kinds_of(thing)
        days = sorted(held)
        at_day = [at for at, way in enumerate(self.ways(thing[0])) if way == "day"]
        later = [
            new for old, new in zip(days, days[1:])
            if [held[old][at] for at in at_day] != [held[new][at] for at in at_day]
        ]
        return days[:1] + later

    def value(self, thing, at, cut):
        held, way = self.kinds_of(thing), self.ways(thing[0])[at]
        if way == "day":
            return None if cut is None else held[cut][at]
        if not held:
            return (None, None) if way == "before" else None
        last = held[max(held)][at]
        if way == "before":
            unlike = [day for day in held if held[day][at] != last]
            return (last, held[max(unlike)][at] if unlike else None)
        return last if way == "last" else held[min(held)][at]

    def versions(self, thing):
        """A thing's versions (from, to, values)."""
        begins = [None] + self.cuts(thing)
        ends = self.cuts(thing) + [None]
        places = range(len(self.ways(thing[0])))
        return [
            (begin, end, tuple(self.value(thing, at, begin) for at in places)) for begin, end in zip(begins, ends)
        ]

    def begin_on(self, thing, day):
        return max((cut for cut in self.cuts(thing) if cut <= day), default=None)

    def led(self, name):
        day, keys, numbers = self.facts[name]
        things = [(dimension, key) for (dimension, attributes), key in zip(self.dimensions, keys)]
        return tuple(self.numbers[thing, self.begin_on(thing, day)] for thing in things)

    def led_facts(self):
        return [(name, *self.facts[name], self.led(name)) for name in sorted(self.facts)]

    def numbered(self, thing):
        return [(self.numbers[thing, version[0]], *version) for version in self.versions(thing)]

    def plain(self):
        things = [(*thing, self.versions(thing)) for thing in self.known_things()]
        facts = []
        for name in sorted(self.facts):
            day, keys, numbers = self.facts[name]
            begins = [
                self.begin_on((dimension, key), day) for (dimension, attributes), key in zip(self.dimensions, keys)
            ]
            facts.append((name, day, keys, numbers, tuple(begins)))
        return (things, facts)

    def tell(self, row):
        """Take a row that is not refused; tell what a house must tell of it."""
        ahead, led = self.numbers, {name: self.led(name) for name in self.facts}
        if row[0] == "kind":
            self.kinds[row[1:4]] = row[4]
        elif row[0] == "fact":
            self.facts[row[1]] = row[2:]
        else:
            del self.facts[row[1]]
        self.number()
        came = len([version for version in self.numbers if version not in ahead])
        went = len([version for version in ahead if version not in self.numbers])
        if row[0] == "kind":
            return ("kind", came, went, len([name for name in led if led[name] != self.led(name)]))
        if row[0] == "fact":
            return ("fact", came, went, self.led(row[1]))
        return ("forget", went)

    def number(self):
        numbers = {}
        for thing in self.known_things():
            for begin, end, values in self.versions(thing):
                if (thing, begin) not in self.numbers:
                    self.last_number += 1
                numbers[thing, begin] = self.numbers.get((thing, begin), self.last_number)
        self.numbers = numbers

    def sums(self, groups, measure):
        """The sums (values, count, sum) of a watch."""
        found = {}
        dimensions = [dimension for dimension, attributes in self.dimensions]
        for day, keys, numbers in self.facts.values():
            values = []
            for dimension, attribute in groups:
                thing = (dimension, keys[dimensions.index(dimension)])
                at = [name for name, way in dict(self.dimensions)[dimension]].index(attribute)
                values.append(self.value(thing, at, self.begin_on(thing, day)))
            found.setdefault(tuple(values), []).append(numbers[self.measures.index(measure)] if measure else 0)
        ordered = sorted(found, key=lambda values: [repr(value) for value in values])
        return [(values, len(found[values]), sum(found[values])) for values in ordered]

    def value_on(self, thing, day, attribute):
        """A thing's value on a day, also where it is not known."""
        at = [name for name, way in dict(self.dimensions)[thing[0]]].index(attribute)
        return self.value(thing, at, self.begin_on(thing, day))


def news_between(name, before, behind):
    """The news of a watch by its sums ahead of a row and behind it."""
    old = {values: (count, total) for values, count, total in before}
    new = {values: (count, total) for values, count, total in behind}
    changed = [values for values in {**old, **new} if old.get(values) != new.get(values)]
    changed.sort(key=lambda values: [repr(value) for value in values])
    return [(name, values, *new.get(values, (0, 0))) for values in changed]
