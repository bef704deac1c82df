"""Mines, widths and levels for the tests, and the document's rules told once more in the plainest way."""

from itertools import product

BIG = 10 ** 60

PAIR = (2, ((0, 1),), 0, 1)
BACKWARD_PAIR = (2, ((0, 1),), 1, 0)
ROW = (3, ((0, 1), (1, 2)), 0, 2)
BRIDGE = (4, ((0, 1), (0, 2), (1, 3), (2, 3), (1, 2)), 0, 3)
TWINS = (2, ((0, 1), (1, 0), (0, 1)), 0, 1)
# Places 3 and 4 hang at place 1, place 5 lies behind the inlet, place 6 behind the outlet.
HANGING = (7, ((0, 1), (1, 2), (3, 1), (3, 4), (4, 1), (5, 0), (2, 6)), 0, 2)
# Parts behind the inlet and the outlet that are rings of their own.
BEHIND = (8, ((2, 3), (3, 4), (4, 2), (5, 6), (6, 7), (7, 5), (2, 0), (0, 1), (1, 5)), 2, 5)
FULL = (8, ((0, 1), (0, 2), (1, 3), (2, 3), (1, 2), (3, 4), (5, 3), (4, 6), (6, 5), (4, 5), (6, 7), (5, 7)), 0, 7)
CROWDED = (8, ((0, 1), (2, 1), (2, 3), (4, 3), (4, 5), (6, 5), (6, 7), (0, 2), (1, 3), (2, 4), (5, 3), (7, 5)), 0, 7)
TURNED = (5, ((4, 2), (2, 1), (1, 3), (0, 3), (0, 4), (2, 0), (1, 4), (3, 4), (3, 1)), 4, 3)
UNJOINED = (4, ((0, 1), (2, 3)), 0, 1)
SPLIT = (6, ((0, 1), (1, 2), (0, 2), (3, 4), (4, 5), (5, 3), (3, 4)), 0, 5)
EMPTY = (3, (), 0, 2)
LONE = (2, (), 1, 0)
# The mine of point 9: a bridge whose ways stand in another sequence.
CROSS = (4, ((0, 1), (0, 2), (1, 2), (1, 3), (2, 3)), 0, 3)
LINE = (8, tuple((k, k + 1) for k in range(7)), 0, 7)
LADDER = (8, ((0, 1), (0, 2), (1, 2), (1, 3), (2, 4), (3, 4), (3, 5), (4, 6), (5, 6), (5, 7), (6, 7)), 0, 7)
WHEEL = (6, ((0, 1), (0, 2), (0, 3), (1, 2), (2, 3), (1, 4), (2, 4), (3, 4), (4, 5), (1, 5), (3, 5)), 0, 5)

JOINED = (PAIR, BACKWARD_PAIR, ROW, BRIDGE, TWINS, HANGING, BEHIND, FULL, CROWDED, TURNED, CROSS, LINE, LADDER, WHEEL)
NOT_JOINED = (UNJOINED, SPLIT)
WITHOUT_WAYS = (EMPTY, LONE)


class Numbers:
    """Numbers that look as if drawn at random, the same ones in every run."""

    def __init__(self, seed):
        self.last = seed

    def below(self, most):
        self.last = (self.last * 6364136223846793005 + 1442695040888963407) % 2 ** 64
        return (self.last >> 20) % most

    def width(self):
        """A width of any size from 1 to 10 ** 60."""
        digits = self.below(60) + 1
        width = 0
        for _ in range(digits):
            width = width * 10 + self.below(10)
        return max(1, width)

    def mine(self):
        """A joined mine of any size."""
        while True:
            places = self.below(7) + 2
            inlet = self.below(places)
            outlet = (inlet + 1 + self.below(places - 1)) % places
            ways = []
            for _ in range(max(places - 1, self.below(12) + 1)):
                first = self.below(places)
                ways.append((first, (first + 1 + self.below(places - 1)) % places))
            mine = (places, tuple(ways), inlet, outlet)
            if told_joined(mine):
                return mine

    def widths(self, mine):
        return tuple([self.width() for _ in mine[1]])


def random_mines(seed, many):
    """Pairs of a joined mine and the numbers, with which more can be drawn."""
    numbers = Numbers(seed)
    return [(numbers.mine(), numbers) for _ in range(many)]


def told_joined(mine):
    places, ways, inlet, _ = mine
    groups = list(range(places))
    for _ in range(places):
        for a, b in ways:
            groups[a] = groups[b] = min(groups[a], groups[b])
    return len(set(groups)) == 1


def told_inner(mine):
    return [x for x in range(mine[0]) if x != mine[2] and x != mine[3]]


def told_leaving(mine, widths, levels, x):
    """The air that leaves x minus the air that arrives, straight from the definition of air."""
    leaving = 0
    for width, (a, b) in zip(widths, mine[1], strict=True):
        air = width * (levels[a] - levels[b])
        if a == x:
            leaving += air
        if b == x:
            leaving -= air
    return leaving


def told_state(mine, widths, levels):
    if levels[mine[2]] <= levels[mine[3]]:
        return False
    return not any(told_leaving(mine, widths, levels, x) for x in told_inner(mine))


def told_balanced(mine, levels):
    places, ways, inlet, outlet = mine
    if levels[inlet] <= levels[outlet]:
        return False
    for x in told_inner(mine):
        near = [levels[b if a == x else a] for a, b in ways if x in (a, b)]
        higher = any(level > levels[x] for level in near)
        lower = any(level < levels[x] for level in near)
        if higher and not lower or lower and not higher:
            return False
    return True


def all_levels(mine, most):
    """All tuples of levels from 0 to most for the mine."""
    return product(range(most + 1), repeat=mine[0])


def drawn_pair(mine, numbers):
    """Two different places."""
    x = numbers.below(mine[0])
    return (x, (x + 1 + numbers.below(mine[0] - 1)) % mine[0])


def drawn_facts(mine, numbers, many):
    return tuple(drawn_pair(mine, numbers) + (numbers.below(2),) for _ in range(many))


def small_mine(numbers, most):
    """A joined mine with at most so many places."""
    while True:
        mine = numbers.mine()
        if mine[0] <= most:
            return mine


def full_mine(numbers):
    """A joined mine with 8 places and 12 ways."""
    while True:
        mine = numbers.mine()
        if mine[0] == 8 and len(mine[1]) == 12:
            return mine


def renamed(mine, names):
    """The mine with place x called names[x]."""
    places, ways, inlet, outlet = mine
    return (places, tuple((names[a], names[b]) for a, b in ways), names[inlet], names[outlet])


def renamed_facts(facts, names):
    return tuple((names[x], names[y], s) for x, y, s in facts)


def drawn_order(many, numbers):
    """The numbers below many in a drawn sequence."""
    order = list(range(many))
    for k in range(many):
        other = k + numbers.below(many - k)
        order[k], order[other] = order[other], order[k]
    return tuple(order)


def exchanged(mine):
    """The mine with inlet and outlet exchanged."""
    return (mine[0], mine[1], mine[3], mine[2])
