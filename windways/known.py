"""What some facts tell of the levels: the facts as they were said, and all comparisons that follow from them."""

from windways.facts import as_said


class Known:
    """Facts without a ring among them.

    said has the facts as its keys. Bit y of above[x] tells that x is surely above y,
    bit y of not_below[x] that x is surely not below y.
    """

    def __init__(self, said, above, not_below):
        self.said = said
        self.above = above
        self.not_below = not_below

    def is_above(self, x, y):
        """Tell whether x is surely above y."""
        return self.above[x] >> y & 1 == 1

    def is_not_below(self, x, y):
        """Tell whether x is surely not below y."""
        return self.not_below[x] >> y & 1 == 1

    def is_settled(self, x, y):
        """Tell whether the facts tell which of x and y is above the other, or that they are equal."""
        if self.is_above(x, y) or self.is_above(y, x):
            return True
        return self.is_not_below(x, y) and self.is_not_below(y, x)

    def rules_out(self, fact):
        """Tell whether a ring goes through the fact and facts that were said."""
        x, y, s = fact
        return self.is_not_below(y, x) if s == 1 else self.is_above(y, x)

    def with_fact(self, fact):
        """Return what is known with one more fact, which is not ruled out."""
        x, y, s = fact
        above = list(self.above)
        not_below = list(self.not_below)
        for z, row in enumerate(self.not_below):
            if row >> x & 1:
                # As z is not below x, it is above or not below whatever y is above or not below.
                surely = s == 1 or self.is_above(z, x)
                above[z] = above[z] | (self.not_below[y] if surely else self.above[y])
                not_below[z] = row | self.not_below[y]
        said = as_said(self.said)
        said[fact] = True
        return Known(said, above, not_below)

    def levels(self):
        """Return levels that fit: for each place the number of places that it is surely above."""
        places = range(len(self.above))
        return tuple([sum([row >> y & 1 for y in places]) for row in self.above])


def all_known(places, facts):
    """Return what facts tell among which there is no ring."""
    known = Known({}, [0] * places, [1 << x for x in range(places)])
    for fact in facts:
        known = known.with_fact(fact)
    return known
