"""The things of a house: their kinds, and their versions with numbers."""

from kindsofday.versions import stretches


class Things:
    """All known things (dimension, key) of one plan, and the numbers that were given so far."""

    def __init__(self, plan):
        self.plan = plan
        self.kinds = {}
        self.numbered = {}
        self.given = 0

    def knows(self, thing):
        """Tell whether a thing is known."""
        return thing in self.numbered

    def take_kind(self, thing, day, values):
        """Keep a kind, in the place of one of that day; tell how many versions came and went."""
        kinds = self.kinds.setdefault(thing, {})
        kinds[day] = values
        return self.number_anew(thing)

    def meet(self, thing):
        """Make a thing known; tell how many versions came."""
        if self.knows(thing):
            return 0
        came, went = self.number_anew(thing)
        return came

    def part(self, thing):
        """Make a thing unknown; tell how many versions went."""
        return len(self.numbered.pop(thing))

    def number_anew(self, thing):
        """Make a thing's versions from its kinds; tell how many came and went."""
        dimension, key = thing
        old = {begin: number for number, begin, end, values in self.numbered.get(thing, [])}
        kinds = list(self.kinds.get(thing, {}).items())
        versions = stretches(self.plan, dimension, kinds)
        stayed = len([begin for begin, end, values in versions if begin in old])
        self.numbered[thing] = self.with_numbers(versions, old)
        return len(versions) - stayed, len(old) - stayed

    def with_numbers(self, versions, old):
        """Number the versions: those that begin where an old one began keep its number."""
        numbered = []
        for begin, end, values in versions:
            if begin not in old:
                self.given += 1
            numbered.append((old.get(begin, self.given), begin, end, values))
        return numbered

    def version_on(self, thing, day):
        """Tell the version of a known thing that a day belongs to."""
        begun = [version for version in self.numbered[thing] if version[1] is None or version[1] <= day]
        return begun[-1]
