"""windways.checker: the rows of the table of point 21, each fault by hand."""

import unittest

from tests.certificates import certificate_fault
from tests.samples import BEHIND, BIG, BRIDGE, CROSS, LINE, PAIR, ROW, TWINS
from tests.told import extra, rising_pairs
from windways.checker import first_fault
from windways.claims import decide

PAPER = ("paper",)
SQUARE = (4, ((0, 1), (0, 2), (1, 3), (2, 3)), 0, 3)

# States of the bridge with place 1 above place 2, below it, and as high.
HIGH = ((6, 2, 2, 6, 2), (3, 2, 1, 0))
LOW = ((2, 6, 6, 2, 2), (3, 1, 2, 0))
EVEN = ((1, 1, 1, 1, 1), (2, 1, 1, 0))
STILL = ((1, 1, 1, 1, 1), (0, 0, 0, 0))
SKEW = ((1, 1, 1, 1, 1), (3, 2, 1, 0))

# The tree of point 9, for CROSS and the fact (1, 0, 1).
TREE_A = ("case", 2, 3, ("stuck", 2), ("ring", ((3, 2, 0), (2, 0, 1), (0, 3, 1))))
TREE_B = ("case", 2, 0, TREE_A, ("ring", ((0, 2, 0), (2, 1, 1), (1, 0, 1))))
TREE_C = ("case", 1, 3, ("stuck", 1), ("ring", ((3, 1, 0), (1, 0, 1), (0, 3, 1))))
CROSS_TREE = ("case", 2, 1, TREE_B, TREE_C)
CROSS_CLAIM = ("can", CROSS, ((1, 0, 1),))


def turn(x, y):
    """The ring of a comparison and its opposite."""
    return ("ring", ((x, y, 1), (y, x, 0)))


def chain(many, leaf, takes_above):
    """A tree with so many cases on its longest path."""
    tree = leaf
    for k in range(many):
        x, y = ((0, 1), (1, 2), (2, 0), (1, 0))[k % 4]
        tree = ("case", x, y) + ((tree, leaf) if takes_above else (leaf, tree))
    return tree


def with_part(tree, path, part):
    """The tree with the part at the end of a path exchanged."""
    if not path:
        return part
    at = 3 if path[0] == "above" else 4
    return tree[:at] + (with_part(tree[at], path[1:], part),) + tree[at + 1:]


class Rows(unittest.TestCase):
    def assert_fault(self, verdict, claim, paper, fault):
        self.assertEqual(first_fault((verdict, claim, paper)), fault, paper)
        self.assertEqual(certificate_fault((verdict, claim, paper)), fault, paper)

    def assert_papers(self, verdict, claim, *papers):
        """None of the papers has the form that the row asks for."""
        for paper in papers:
            self.assert_fault(verdict, claim, paper, PAPER)


class Frame(Rows):
    def test_the_document(self):
        told = decide(("way", BRIDGE, 4, -1))
        self.assertEqual(told[0], "shown")
        self.assertIsNone(first_fault(told))
        self.assertIsNone(first_fault(certificate=told))
        self.assertEqual(first_fault(("broken",) + told[1:]), PAPER)

    def test_triples(self):
        right = decide(("plain", PAIR))
        for value in (right[:2], right + (None,), list(right), (), None, "abc", {0: 1, 1: 2, 2: 3}, 3, (right,)):
            self.assertEqual(first_fault(value), ("form",))

    def test_claims_come_before_verdicts_and_papers(self):
        for claim in (None, (), ("plain",), ("plain", (4, ((0, 1), (2, 3)), 0, 1)), ["plain", PAIR],
                      ("bound", PAIR, (0,)),
                      ("within", PAIR, 0, ()), ("effect", PAIR, 0, 0, 1), ("can", PAIR, ((0, 1, 1),) * 13)):
            for verdict in ("shown", "maybe", None):
                self.assert_fault(verdict, claim, (), ("claim",))

    def test_verdicts(self):
        for verdict in ("", "Shown", "shown ", "maybe", None, True, 1, (), [], {}, ("shown",), ["broken"]):
            self.assert_fault(verdict, ("plain", PAIR), (), PAPER)
        self.assert_fault("shown", ("plain", PAIR), (), None)


class States(Rows):
    CLAIM = ("can", BRIDGE, ((1, 2, 1),))

    def test_faults_in_their_sequence(self):
        self.assert_fault("shown", self.CLAIM, HIGH, None)
        for state in (EVEN, LOW):
            self.assert_fault("shown", self.CLAIM, state, ("facts",))
            self.assert_fault("broken", ("sure", BRIDGE, (), (2, 1, 0)), state, ("facts",))
        for state in (SKEW, STILL, ((6, 2, 2, 6, 2), (0, 1, 2, 3)), ((6, 2, 2, 6, 3), (3, 2, 1, 0))):
            self.assert_fault("shown", self.CLAIM, state, ("state",))
        self.assert_fault("shown", ("can", BRIDGE, ((1, 2, 0),)), EVEN, None)
        self.assert_fault("broken", ("sure", BRIDGE, (), (2, 1, 0)), HIGH, None)
        self.assert_fault("broken", ("sure", BRIDGE, ((2, 1, 0),), (2, 1, 1)), EVEN, None)
        self.assert_fault("broken", ("sure", BRIDGE, ((2, 1, 1),), (0, 3, 1)), LOW, ("facts",))

    def test_limits_of_widths(self):
        claim = ("can", BRIDGE, ())
        self.assert_fault("shown", claim, ((BIG,) * 5, (2, 1, 1, 0)), None)
        self.assert_fault("shown", claim, ((1, 1, 1, 1, BIG), (2, 1, 1, 0)), None)
        for width in (0, -1, BIG + 1, True, None, "1", (1,)):
            self.assert_papers("shown", claim, ((1, 1, 1, 1, width), (2, 1, 1, 0)), ((width,) * 5, STILL[1]))

    def test_limits_of_levels(self):
        claim = ("can", BRIDGE, ())
        for most in (1, BIG - 1, BIG):
            self.assert_fault("shown", claim, (EVEN[0], (most, 0, 0, -most)), None)
        self.assert_fault("shown", claim, (EVEN[0], (-BIG, 0, 0, BIG)), ("state",))
        for level in (BIG + 1, -BIG - 1, True, False, None, "0", ()):
            self.assert_papers("shown", claim, (EVEN[0], (2, 1, 1, level)), (EVEN[0], (level, 1, 1, 0)))

    def test_lengths_and_kinds(self):
        claim = ("can", BRIDGE, ())
        widths, levels = EVEN
        self.assert_papers(
            "shown", claim, None, (), "state", (widths,), EVEN + (None,), list(EVEN), (list(widths), levels),
            (widths, list(levels)), (widths[1:], levels), (widths + (1,), levels), (widths, levels + (0,)),
            (widths, levels[1:]), (levels, widths), ("state", widths, levels), ((), ()), {0: widths, 1: levels},
        )


class Trees(Rows):
    def test_the_tree_of_the_document(self):
        self.assert_fault("broken", CROSS_CLAIM, CROSS_TREE, None)
        self.assert_fault("broken", CROSS_CLAIM, ("case", 2, 1, TREE_A, TREE_C), ("tree", ("above", "above")))
        self.assert_fault("shown", ("sure", CROSS, (), (0, 1, 0)), CROSS_TREE, None)
        self.assert_fault("broken", ("way", CROSS, 0, -1), CROSS_TREE, None)
        self.assert_fault("broken", ("way", (4, ((1, 0),) + CROSS[1][1:], 0, 3), 0, 1), CROSS_TREE, None)
        self.assert_fault("broken", ("way", CROSS, 0, 1), CROSS_TREE, ("tree", ("above", "rest")))

    def test_the_first_leaf_that_is_wrong(self):
        paths = (("above", "above", "above"), ("above", "above", "rest"), ("above", "rest"), ("rest", "above"),
                 ("rest", "rest"))
        wrong = (("ring", ()), ("ring", ((0, 3, 1),)), ("ring", ((0, 3, 1), (3, 0, 0))))
        for k, path in enumerate(paths):
            for leaf in wrong:
                tree = with_part(CROSS_TREE, path, leaf)
                self.assert_fault("broken", CROSS_CLAIM, tree, ("tree", path))
                for later in paths[k:]:
                    self.assert_fault("broken", CROSS_CLAIM, with_part(tree, later, leaf), ("tree", path))

    def test_parts_on_another_path(self):
        self.assert_fault("broken", CROSS_CLAIM, CROSS_TREE[:3] + (TREE_C, TREE_C), ("tree", ("above", "above")))
        self.assert_fault("broken", CROSS_CLAIM, CROSS_TREE[:3] + (("stuck", 2), ("stuck", 2)), ("tree", ("above",)))
        self.assert_fault("broken", CROSS_CLAIM, CROSS_TREE[:4] + (("stuck", 2),), ("tree", ("rest",)))

    def test_rings(self):
        claim = ("can", ROW, ((1, 0, 1), (0, 1, 1), (0, 1, 0), (1, 0, 0)))
        for ring in (
            ((1, 0, 1), (0, 1, 1)), ((1, 0, 1), (0, 1, 0)), ((0, 1, 1), (1, 0, 0)), ((0, 1, 0), (1, 0, 1)) * 3,
            ((0, 1, 0), (1, 0, 0)) * 2 + ((0, 1, 1), (1, 0, 0)),
        ):
            self.assert_fault("broken", claim, ("ring", ring), None)
        for ring in (
            (), ((0, 1, 0), (1, 0, 0)), ((1, 0, 1),), ((1, 0, 1), (1, 0, 1)), ((0, 1, 1), (1, 2, 0), (2, 0, 0)),
            ((0, 2, 1),), ((0, 2, 1), (2, 0, 0)), ((1, 0, 1), (0, 1, 1), (1, 0, 0)), ((0, 1, 1), (1, 2, 1), (2, 0, 1)),
        ):
            self.assert_fault("broken", claim, ("ring", ring), ("tree", ()))
        for fact in ((1, 0, True), (True, 0, 1), (1, False, 1), (0, 0, 1), (0, 3, 1), (1, 0, 2), (1, 0), [1, 0, 1],
                     None):
            self.assert_papers("broken", claim, ("ring", ((1, 0, 1), (0, 1, 1), fact)), ("ring", (fact,)))

    def test_lengths_of_rings(self):
        claim = ("can", ROW, ((1, 0, 1), (0, 1, 0)))
        two = ((1, 0, 1), (0, 1, 0))
        self.assert_fault("broken", claim, ("ring", ()), ("tree", ()))
        self.assert_fault("broken", claim, ("ring", two * 30), None)
        self.assert_fault("broken", claim, ("ring", two * 29 + two[:1]), ("tree", ()))
        self.assert_papers("broken", claim, ("ring", two * 30 + two[:1]), ("ring", two * 31), ("ring", list(two)))

    def test_fan_counts_as_a_fact(self):
        self.assert_fault("broken", ("can", ROW, ((2, 0, 0),)), ("ring", ((0, 2, 1), (2, 0, 0))), None)
        self.assert_fault("broken", ("can", (3, ((0, 1), (2, 1), (0, 2)), 0, 1), ((2, 1, 0), (2, 0, 0))), ("stuck", 2),
                          ("tree", ()))
        star = (4, ((0, 1), (1, 3), (2, 1)), 0, 2)
        self.assert_fault("broken", ("can", star, ((0, 1, 0), (2, 1, 1), (3, 1, 0))), ("stuck", 1), None)
        self.assert_fault("broken", ("can", star, ((0, 1, 0), (2, 1, 0), (3, 1, 0))), ("stuck", 1), ("tree", ()))

    def test_stuck_places(self):
        claim = ("can", ROW, ((0, 1, 1), (2, 1, 0)))
        self.assert_fault("broken", claim, ("stuck", 1), None)
        self.assert_fault("broken", ("can", ROW, ((1, 0, 0), (1, 2, 1))), ("stuck", 1), None)
        self.assert_fault("broken", ("can", ROW, ((0, 1, 1), (1, 2, 0))), ("stuck", 1), ("tree", ()))
        self.assert_fault("broken", ("can", ROW, ((0, 1, 0), (2, 1, 0))), ("stuck", 1), ("tree", ()))
        for x in (0, 2, 3, -1, True, None, "1", (1,), [1]):
            self.assert_papers("broken", claim, ("stuck", x))

    def test_what_follows_from_facts_does_not_count(self):
        # 0 above 1 and 1 above 2 tell that 0 is above 2, but the ring names that fact.
        claim = ("can", LINE, ((0, 1, 1), (1, 2, 1), (2, 0, 0)))
        self.assert_fault("broken", claim, ("ring", ((0, 2, 1), (2, 0, 0))), ("tree", ()))
        named = ("case", 0, 2, turn(0, 2), ("ring", ((2, 0, 0), (0, 1, 1), (1, 2, 1))))
        self.assert_fault("broken", claim, named, None)

    def test_cases_on_a_path(self):
        claim = ("can", ROW, ((0, 1, 1), (2, 1, 0)))
        for takes_above in (True, False):
            for many in (0, 1, 39, 40):
                self.assert_fault("broken", claim, chain(many, ("stuck", 1), takes_above), None)
            wrong = ("tree", (("above",) if takes_above else ("rest",)) * 40)
            tree = chain(40, ("stuck", 1), takes_above)
            self.assert_papers("broken", claim, chain(41, ("stuck", 1), takes_above), ("case", 0, 1, tree, tree))
            deep = ("ring", ())
            for _ in range(40):
                deep = ("case", 0, 1) + ((deep, ("stuck", 1)) if takes_above else (("stuck", 1), deep))
            self.assert_fault("broken", claim, deep, wrong)

    def test_forms(self):
        leaf = ("stuck", 1)
        claim = ("can", ROW, ((0, 1, 1), (2, 1, 0)))
        self.assert_fault("broken", claim, ("case", 0, 2, leaf, leaf), None)
        self.assert_papers(
            "broken", claim, ("case", 0, 0, leaf, leaf), ("case", 0, 3, leaf, leaf), ("case", True, 0, leaf, leaf),
            ("case", 0, 1, leaf), ("case", 0, 1, leaf, leaf, leaf), ("Case", 0, 1, leaf, leaf),
            ["case", 0, 1, leaf, leaf],
            ("case", 0, 1, leaf, None), ("case", 0, 1, list(leaf), leaf),
            ("case", 0, 1, leaf, ("case", 0, 1, leaf, ())),
            ("stuck",), ("stuck", 1, 1), ("ring",), ("ring", None), ("case",), (), None, leaf[1], "stuck",
            ("state", (1, 1), (2, 1, 0)), ("case", 0, 2, leaf, ("state", (1, 1), (2, 1, 0))),
        )

    def test_a_wrong_form_comes_before_every_condition(self):
        claim = ("can", ROW, ((0, 1, 1), (2, 1, 0)))
        wrong = ("ring", ())
        self.assert_fault("broken", claim, ("case", 0, 1, wrong, ("stuck", 1)), ("tree", ("above",)))
        self.assert_papers("broken", claim, ("case", 0, 1, wrong, ("stuck", 0)), ("case", 0, 1, wrong, None))


class Censuses(Rows):
    # With these facts the square has one picture; its two inner places can still be compared in a census.
    FACTS = ((0, 1, 1), (0, 2, 1), (1, 3, 1), (2, 3, 1))
    ABOVE = ("state", (2, 1, 1, 2), (3, 2, 1, 0))
    BELOW = ("state", (1, 2, 2, 1), (3, 1, 2, 0))
    LEVEL = ("state", (1, 1, 1, 1), (2, 1, 1, 0))
    ONE = ("count", SQUARE, FACTS, 1)
    TWO = ("count", SQUARE, FACTS, 2)

    def test_the_same_picture_twice(self):
        for census in (("case", 1, 2, self.ABOVE, self.BELOW), ("case", 2, 1, self.BELOW, self.LEVEL), self.LEVEL):
            self.assert_fault("shown", self.ONE, census, None)
            self.assert_fault("broken", self.ONE, census, ("count",))
            self.assert_fault("shown", self.TWO, census, ("count",))
            self.assert_fault("broken", self.TWO, census, None)

    def test_states_that_are_not_right(self):
        above, below = self.ABOVE, self.BELOW
        for census, path in (
            (("case", 1, 2, below, above), ("above",)), (("case", 1, 2, below, below), ("above",)),
            (("case", 1, 2, above, above), ("rest",)), (("case", 1, 2, self.LEVEL, below), ("above",)),
            (("case", 1, 2, ("state", (1, 1, 1, 1), (3, 2, 1, 0)), below), ("above",)),
            (("case", 1, 2, above, ("state", (1, 1, 1, 1), (0, 0, 0, 0))), ("rest",)),
            (("case", 1, 2, above, ("case", 2, 1, above, self.LEVEL)), ("rest", "above")),
            (("case", 1, 2, ("ring", ()), above), ("above",)), (("stuck", 1), ()),
        ):
            for claim in (self.ONE, self.TWO):
                for verdict in ("shown", "broken"):
                    self.assert_fault(verdict, claim, census, ("tree", path))

    def test_facts_and_cases_tell_the_sign_of_each_way(self):
        for k in range(4):
            claim = ("count", SQUARE, self.FACTS[:k] + self.FACTS[k + 1:], 1)
            self.assert_fault("shown", claim, self.LEVEL, ("tree", ()))
            x, y, _ = self.FACTS[k]
            self.assert_fault("shown", claim, ("case", x, y, self.LEVEL, ("stuck", (x, y)[k < 2])), None)
        still = ("count", BRIDGE, ((0, 1, 1), (0, 2, 1), (1, 3, 1), (2, 3, 1), (1, 2, 0)), 1)
        even = ("state",) + EVEN
        self.assert_fault("shown", still, even, ("tree", ()))
        self.assert_fault("shown", still[:2] + (still[2][:4] + ((2, 1, 0),), 1), even, ("tree", ()))
        self.assert_fault("shown", still[:2] + (still[2] + ((2, 1, 0),), 1), even, None)
        self.assert_fault("shown", still, ("case", 1, 2, ("state",) + HIGH, even), ("count",))
        self.assert_fault("shown", still[:3] + (2,), ("case", 1, 2, ("state",) + HIGH, even), None)

    def test_the_fan_tells_a_sign(self):
        self.assert_fault("shown", ("count", PAIR, (), 1), ("state", (1,), (1, 0)), None)
        self.assert_fault("shown", ("count", TWINS, (), 1), ("state", (1, 2, 3), (1, 0)), None)
        self.assert_fault("shown", ("count", PAIR, ((1, 0, 0),), 1), ("state", (1,), (1, 0)), ("tree", ()))

    def test_no_picture(self):
        ring = ("ring", ((0, 3, 1), (3, 0, 0)))
        for n in (0, 1, 200):
            claim = ("count", SQUARE, ((3, 0, 0),), n)
            self.assert_fault("shown", claim, ring, None if n == 0 else ("count",))
            self.assert_fault("broken", claim, ring, ("count",) if n == 0 else None)

    def test_cases_on_a_path(self):
        for many in (1, 39, 40, 41):
            above = self.ABOVE
            for _ in range(many - 1):
                above = ("case", 1, 2, above, turn(1, 2))
            census = ("case", 1, 2, above, self.BELOW)
            self.assert_fault("shown", self.ONE, census, None if many <= 40 else PAPER)
            self.assert_fault("broken", self.TWO, census, None if many <= 40 else PAPER)

    def test_forms(self):
        for verdict in ("shown", "broken"):
            self.assert_papers(
                verdict, self.ONE, self.ABOVE[1:], ("state",), self.ABOVE + (None,), ("state", self.ABOVE[1:]),
                ("state", (0, 1, 1, 2), (3, 2, 1, 0)), ("state", (1, 1, 1, True), (2, 1, 1, 0)),
                ("State",) + self.LEVEL[1:],
                ("state", (1, 1, 1, BIG + 1), (2, 1, 1, 0)), ("state", [1, 1, 1, 1], (2, 1, 1, 0)),
                ("case", 1, 2, ("ring", ()), ("state", (1, 1, 1), (2, 1, 1, 0))), None, (), 1, ("state", (), ()),
            )


class Routes(Rows):
    def test_ways(self):
        claim = ("way", BRIDGE, 4, -1)
        self.assert_fault("shown", claim, (1, 4, 2), None)
        self.assert_fault("shown", ("way", BRIDGE, 4, 1), (0, 4, 3), None)
        self.assert_fault("shown", ("way", BRIDGE, 0, 1), (0, 4, 3), None)
        for route in (
            (), (0, 2), (1, 4), (4,), (0, 4, 3), (1, 4, 2, 2), (1, 4, 2, 3), (1, 4, 4, 4, 2), (0, 0, 1, 4, 2),
            (4, 1, 2),
            (1, 3, 2, 4, 4, 2), (1, 4, 0, 0, 2), (2, 4, 1), (1, 4, 2) * 4, (0,) * 12,
        ):
            self.assert_fault("shown", claim, route, ("route",))
        self.assert_papers(
            "shown", claim, (0,) * 13, (1, 4, 2) + (0,) * 10, (1, 4, 5), (1, 4, -1), (1, 4, True), (True, 4, 2),
            [1, 4, 2],
            None, (1, 4, None), ((1, 4, 2),), "142", ("stuck", 1),
        )

    def test_a_place_visited_twice(self):
        # A route of the longest form that goes round at the outlet, and one that comes back to the inlet.
        self.assert_fault("shown", ("way", TWINS, 0, 1), (0,), None)
        self.assert_fault("shown", ("way", TWINS, 1, -1), (1,), None)
        self.assert_fault("shown", ("way", TWINS, 1, 1), (0, 1, 2), ("route",))
        self.assert_fault("shown", ("way", TWINS, 0, 1), (0, 1, 2), ("route",))
        self.assert_fault("shown", ("way", BEHIND, 6, 1), (0, 1, 2, 6, 7, 8), ("route",))
        self.assert_fault("shown", ("way", BEHIND, 6, 1), (6, 7, 8), None)

    def test_a_way_that_does_not_lead_on(self):
        # Way 3 ends at the outlet, but it does not begin where way 0 ends; the same with its ends exchanged.
        for way in ((3, 2), (2, 3)):
            mine = (4, ((0, 1), (0, 2), (1, 3), way), 0, 3)
            self.assert_fault("shown", ("way", mine, 0, 1), (0, 3), ("route",))
            self.assert_fault("shown", ("way", mine, 0, 1), (0, 2), None)
            self.assert_fault("shown", ("way", mine, 3, -1 if way == (3, 2) else 1), (1, 3), None)

    def test_trees_for_ways(self):
        self.assert_fault("broken", ("way", ROW, 0, -1), ("ring", ((1, 0, 1), (0, 1, 1))), ("tree", ()))
        tree = ("case", 1, 2, ("stuck", 1), ("ring", ((2, 1, 0), (1, 0, 1), (0, 2, 1))))
        self.assert_fault("broken", ("way", ROW, 0, -1), tree, None)
        self.assert_fault("broken", ("way", ROW, 0, 1), tree, ("tree", ("above",)))
        self.assert_papers("broken", ("way", ROW, 0, -1), (0, 1), (), None, ("stuck", 0), ("state", (1, 1), (2, 1, 0)))

    def test_routes_that_turn(self):
        claim = ("plain", BRIDGE)
        one, two = (0, 4, 3), (1, 4, 2)
        self.assert_fault("broken", claim, (4, one, two), None)
        self.assert_fault("broken", claim, (4, two, one), ("route", 0))
        self.assert_fault("broken", claim, (4, one, one), ("route", 1))
        self.assert_fault("broken", claim, (4, two, two), ("route", 0))
        self.assert_fault("broken", claim, (4, (), (0,) * 12), ("route", 0))
        self.assert_fault("broken", claim, (4, one, (1, 4)), ("route", 1))
        self.assert_fault("broken", claim, (0, one, two), ("route", 1))
        self.assert_fault("broken", claim, (1, one, two), ("route", 0))
        self.assert_papers(
            "broken", claim, (4, one), (4, one, two, ()), (5, one, two), (-1, one, two), (True, one, two),
            (one, two, 4),
            [4, one, two], (4, list(one), two), (4, one, two + (0,) * 10), (4, one, (1, 5, 2)), (4, one, None), (),
            None,
            ("turns", 4, one, two),
        )


class Reductions(Rows):
    CLAIM = ("plain", SQUARE)
    RIGHT = (("behind", 1), ("behind", 2), ("beside", 4, 5))

    def test_steps_and_the_end(self):
        self.assert_fault("shown", self.CLAIM, self.RIGHT, None)
        for k in range(3):
            self.assert_fault("shown", self.CLAIM, self.RIGHT[:k], ("end",))
        self.assert_fault("shown", self.CLAIM, (("beside", 0, 1),), ("step", 0))
        self.assert_fault("shown", self.CLAIM, self.RIGHT + (("behind", 1),), ("step", 3))
        self.assert_fault("shown", self.CLAIM, (self.RIGHT[0],) * 2, ("step", 1))
        self.assert_fault("shown", self.CLAIM, self.RIGHT[:2] + (("beside", 3, 4),), ("step", 2))
        self.assert_fault("shown", self.CLAIM, (("behind", 1), ("behind", 2), ("beside", 4, 6)), ("step", 2))
        self.assert_fault("shown", ("plain", BRIDGE), (("behind", 1),), ("step", 0))
        self.assert_fault("shown", ("plain", PAIR), (), None)
        # The last joint joins the inlet and another place.
        self.assert_fault("shown", ("plain", ROW), (("hung", 0, (1,)),), ("step", 0))
        self.assert_fault("shown", ("plain", ROW), (("behind", 1),), None)
        self.assert_fault("shown", ("plain", TWINS), (("beside", 0, 1), ("beside", 2, 3)), None)
        self.assert_fault("shown", ("plain", TWINS), (("beside", 0, 1), ("beside", 0, 2)), ("step", 1))

    def test_hung(self):
        mine = (5, ((0, 1), (1, 2), (2, 3), (3, 1), (0, 4)), 0, 4)
        claim = ("plain", mine)
        self.assert_fault("shown", claim, (("hung", 0, (1, 2, 3)),), None)
        self.assert_fault("shown", claim, (("hung", 1, (2, 3)), ("hung", 0, (1,))), None)
        self.assert_fault("shown", claim, (("hung", 1, (2, 3)), ("hung", 0, (1, 2, 3))), None)
        self.assert_fault("shown", claim, (("hung", 1, (2, 3)), ("hung", 1, (2, 3))), ("step", 1))
        self.assert_fault("shown", claim, (("hung", 1, (2,)),), ("step", 0))
        self.assert_fault("shown", claim, (("hung", 4, (1, 2, 3)),), ("step", 0))
        self.assert_fault("shown", claim, (("hung", 1, (2, 3)),), ("end",))
        self.assert_papers(
            "shown", claim, (("hung", 1, ()),), (("hung", 1, (1, 2)),), (("hung", 1, (3, 2)),), (("hung", 1, (2, 2)),),
            (("hung", 1, (0, 2)),), (("hung", 1, (2, 4)),), (("hung", 5, (2, 3)),), (("hung", True, (2, 3)),),
            (("hung", 1, [2, 3]),), (("hung", 1, 2),), (("hung", 1),), (("hung", 1, (2, 3), ()),),
            (("hung", 0, (True, 2, 3)),), (("hung", None, (2, 3)),),
        )

    def test_how_many(self):
        self.assert_fault("shown", self.CLAIM, (("beside", 0, 1),) * 40, ("step", 0))
        self.assert_fault("shown", self.CLAIM, self.RIGHT + (("beside", 0, 1),) * 37, ("step", 3))
        self.assert_papers("shown", self.CLAIM, (("beside", 0, 1),) * 41, self.RIGHT + (("beside", 0, 1),) * 38)

    def test_numbers_of_joints(self):
        for i, j in ((0, 60), (59, 60), (12, 13), (0, 4)):
            self.assert_fault("shown", self.CLAIM, (("beside", i, j),), ("step", 0))
        for i, j in ((0, 61), (60, 61), (-1, 0), (0, 0), (1, 0), (60, 60), (0, True), (False, 1), (0, None), ("0", 1)):
            self.assert_papers("shown", self.CLAIM, (("beside", i, j),), self.RIGHT + (("beside", i, j),))

    def test_forms(self):
        self.assert_papers(
            "shown", self.CLAIM, None, list(self.RIGHT), (("behind",),), (("behind", 0),), (("behind", 3),),
            (("behind", True),), (("behind", 1, 2),), (("beside", 0),), (("beside", 0, 1, 2),), (["behind", 1],), ((),),
            (None,), ("behind", 1), (("above", 1),), (("Behind", 1),), (("beside", 0, 1), ()), (("behind", (1,)),),
        )
        # The form comes before the first step.
        self.assert_papers("shown", self.CLAIM, (("beside", 0, 1), ("behind", 0)), (("beside", 0, 1), None))


class Looks(Rows):
    CLAIM = ("looks", BRIDGE, (), ((1, 2),), (1, 2), 1)
    UP = ("sure", 1, (turn(1, 2),))
    DOWN = ("sure", -1, (turn(2, 1),))
    LEVEL = ("sure", 0, (turn(2, 1), turn(1, 2)))
    PLAN = (0, UP, DOWN, LEVEL)
    FOE = (HIGH, LOW)
    NONE = ("looks", BRIDGE, (), ((0, 1),), (1, 2), None)

    def test_a_plan_and_a_foe(self):
        self.assert_fault("shown", self.CLAIM, (self.PLAN, self.FOE), None)
        for foe in ((HIGH, EVEN), (EVEN, LOW), (LOW, HIGH)):
            self.assert_fault("shown", self.CLAIM, (self.PLAN, foe), None)
        for foe in ((HIGH, HIGH), (HIGH, STILL), (SKEW, LOW), (EVEN, (EVEN[0], (4, 2, 2, 0)))):
            self.assert_fault("shown", self.CLAIM, (self.PLAN, foe), ("foe", ()))

    def test_leaves_of_plans(self):
        wrong = {
            (): [self.UP, self.DOWN, self.LEVEL, ("none", turn(1, 2))],
            (1,): [(0, self.DOWN, self.DOWN, self.LEVEL), (0, ("none", turn(1, 2)), self.DOWN, self.LEVEL)],
            (-1,): [(0, self.UP, self.UP, self.LEVEL), (0, self.UP, self.LEVEL, self.UP)],
            (0,): [(0, self.UP, self.DOWN, self.UP), (0, self.UP, self.DOWN, ("sure", 0, (turn(2, 1),) * 2)),
                   (0, self.UP, self.DOWN, ("sure", 0, (turn(1, 2),) * 2)),
                   (0, self.UP, self.DOWN, ("sure", 0, (turn(1, 2), turn(2, 1))))],
        }
        for path, plans in wrong.items():
            for plan in plans:
                for foe in (self.FOE, (HIGH, HIGH)):
                    self.assert_fault("shown", self.CLAIM, (plan, foe), ("plan", path))

    def test_a_look_too_many(self):
        # The example of the document: a look behind the answer 1, where one look is allowed.
        for answer, plan in (
            (1, (0, self.PLAN, self.DOWN, self.LEVEL)), (-1, (0, self.UP, self.PLAN, self.LEVEL)),
            (0, (0, self.UP, self.DOWN, self.PLAN)),
        ):
            self.assert_fault("shown", self.CLAIM, (plan, self.FOE), ("plan", (answer,)))
            self.assert_papers("shown", self.CLAIM, ((0, plan, plan, plan), self.FOE))
        self.assert_fault("broken", self.CLAIM, ("fewer", self.PLAN), ("plan", ()))

    def test_answers_that_cannot_be_given(self):
        facts = ((1, 2, 1),)
        claim = ("looks", BRIDGE, facts, ((2, 1),), (1, 2), 1)
        up, level = ("none", ("ring", ((1, 2, 1), (2, 1, 1)))), ("none", turn(1, 2))
        self.assert_fault("broken", claim, ("fewer", self.UP), None)
        self.assert_fault("shown", claim, ((0, up, self.UP, level), (HIGH, HIGH)), ("foe", ()))
        self.assert_fault("shown", claim, ((0, up, level, level), self.FOE), ("plan", (-1,)))
        self.assert_fault("shown", claim, ((0, level, self.UP, level), self.FOE), ("plan", (1,)))
        self.assert_fault("shown", claim, ((0, up, self.UP, up), self.FOE), ("plan", (0,)))
        self.assert_fault("shown", claim, ((0, up, self.UP, self.UP), self.FOE), ("foe", ()))

    def test_two_looks(self):
        claim = ("looks", BRIDGE, (), ((0, 1), (1, 2)), (1, 2), 1)
        plan = (1, self.UP, self.DOWN, self.LEVEL)
        self.assert_fault("shown", claim, (plan, self.FOE), None)
        self.assert_fault("shown", claim, (self.PLAN, self.FOE), ("plan", (1,)))
        two = claim[:5] + (2,)
        foe = ((1, HIGH, self.FOE), (1, HIGH, (HIGH, HIGH)))
        self.assert_fault("shown", two, (plan, foe), ("foe", (1,)))
        self.assert_fault("shown", two, (plan, ((1, HIGH, self.FOE), (-1, HIGH, self.FOE))), ("foe", (1,)))
        self.assert_fault("shown", two, (plan, ((0, HIGH, self.FOE), (1, HIGH, self.FOE))), ("foe", (0,)))
        self.assert_fault("shown", two, (plan, ((1, HIGH, (HIGH, HIGH)), (-1, HIGH, self.FOE))), ("foe", (0,)))
        deep = (0, plan, plan, plan)
        self.assert_fault("shown", claim, (deep, self.FOE), ("plan", (1,)))
        self.assert_fault("shown", two, (deep, foe), ("foe", (1,)))
        self.assert_fault("shown", two, ((0, plan, plan, self.UP), foe), ("plan", (0,)))
        self.assert_fault("shown", two, ((0, (1, self.UP, self.UP, self.LEVEL), plan, plan), foe), ("plan", (1, -1)))
        self.assert_fault("broken", two, ("fewer", plan), None)
        self.assert_fault("broken", two, ("fewer", deep), ("plan", (1,)))
        self.assert_fault("broken", two[:5] + (None,), ("fewer", deep), None)

    def test_no_number(self):
        entry = (1, HIGH, self.FOE)
        self.assert_fault("shown", self.NONE, (entry,), None)
        self.assert_fault("shown", self.NONE, ((0, HIGH, self.FOE),), ("foe", (0,)))
        self.assert_fault("shown", self.NONE, ((-1, HIGH, self.FOE),), ("foe", (0,)))
        self.assert_fault("shown", self.NONE, ((1, SKEW, self.FOE),), ("foe", (0,)))
        self.assert_fault("shown", self.NONE, ((1, HIGH, (HIGH, SKEW)),), ("foe", (0,)))
        self.assert_fault("shown", self.NONE, ((1, HIGH, (LOW, LOW)),), ("foe", (0,)))
        self.assert_fault("broken", self.NONE, ("fewer", (0, self.UP, self.DOWN, self.LEVEL)), ("plan", (1,)))
        self.assert_papers("shown", self.NONE, self.FOE, (), (entry, entry), (self.PLAN, (entry,)), ("more", (entry,)))
        self.assert_papers("broken", self.NONE, ("more", (entry,)), ("fewer", ()), ("fewer", (entry,)))
        empty = ("looks", BRIDGE, (), (), (1, 2), None)
        self.assert_fault("shown", empty, self.FOE, None)
        self.assert_fault("shown", empty, (EVEN, EVEN), ("foe", ()))
        self.assert_papers("shown", empty, (), ((),), (entry,))

    def test_two_foes_deep(self):
        claim = ("looks", BRIDGE, (), ((0, 1), (0, 2)), (1, 2), None)
        entry = (1, HIGH, self.FOE)
        right = ((1, HIGH, (entry, entry)), (1, LOW, (entry, entry)))
        self.assert_fault("shown", claim, right, None)
        for i in (0, 1):
            for j in (0, 1):
                inner = [entry, entry]
                inner[j] = (1, HIGH, (HIGH, HIGH))
                outer = list(right)
                outer[i] = (1, HIGH, tuple(inner))
                self.assert_fault("shown", claim, tuple(outer), ("foe", (i, j)))
            outer[i] = (-1, HIGH, tuple(inner))
            self.assert_fault("shown", claim, tuple(outer), ("foe", (i,)))
        self.assert_papers("shown", claim, (entry, entry), right[:1], right + right[:1], self.FOE)

    def test_more(self):
        self.assert_fault("broken", self.NONE[:5] + (0,), ("more", self.FOE), None)
        self.assert_fault("broken", self.NONE[:5] + (1,), ("more", ((1, HIGH, self.FOE),)), None)
        self.assert_fault("broken", self.NONE[:5] + (1,), ("more", ((-1, HIGH, self.FOE),)), ("foe", (0,)))
        self.assert_fault("broken", self.CLAIM, ("more", ((1, HIGH, self.FOE),)), ("foe", (0,)))
        self.assert_papers("broken", self.NONE[:5] + (0,), ("more", ()), ("more", ((1, HIGH, self.FOE),)), ("more",))
        self.assert_papers("broken", self.NONE[:5] + (1,), ("more", self.FOE), ("more", ((1, HIGH, self.FOE),) * 2))

    def test_no_look_needed(self):
        claim = ("looks", BRIDGE, (), ((1, 2),), (0, 3), 0)
        sure = ("sure", 1, (turn(0, 3),))
        self.assert_fault("shown", claim, (sure, ()), None)
        self.assert_fault("shown", claim, (("sure", -1, (turn(0, 3),)), ()), ("plan", ()))
        self.assert_fault("shown", claim, ((0, sure, sure, sure), ()), ("plan", ()))
        self.assert_papers("shown", claim, (sure, (HIGH, LOW)), (sure, None), (sure, []), (sure,), sure, (sure, ((),)))
        self.assert_papers("broken", claim, ("fewer", sure), ("fewer", (0, sure, sure, sure)), ("more", ()))
        self.assert_fault("broken", claim, ("more", self.FOE), ("foe", ()))
        self.assert_fault("broken", claim[:5] + (None,), ("fewer", sure), None)
        self.assert_fault("broken", claim[:5] + (1,), ("fewer", sure), None)
        impossible = ("looks", BRIDGE, ((3, 0, 0),), (), (1, 2), 0)
        self.assert_fault("shown", impossible, (("none", turn(0, 3)), ()), None)
        self.assert_fault("shown", impossible, (("none", turn(1, 2)), ()), ("plan", ()))

    def test_forms(self):
        up, plan, foe = self.UP, self.PLAN, self.FOE
        self.assert_papers(
            "shown", self.CLAIM, None, (), (plan,), (plan, foe, None), [plan, foe], (foe, plan), ("fewer", plan),
            (plan, ()), (plan, (HIGH,)), (plan, foe + (HIGH,)), (plan, list(foe)), (plan, (HIGH, LOW[:1])),
            ((1,) + plan[1:], foe), ((-1,) + plan[1:], foe), ((False,) + plan[1:], foe), (plan[:3], foe),
            ((0,) + (up,) * 4, foe),
            (list(plan), foe), ((0, up, up, None), foe), (("sure", 2, up[2]), foe), (("sure", True, up[2]), foe),
            (("sure", 1, ()), foe), (("sure", 1, up[2] * 2), foe), (("sure", 0, up[2]), foe),
            (("sure", 0, up[2] * 3), foe),
            (("sure", 1, list(up[2])), foe), (("sure", 1, up[2][0]), foe), (("sure", 1), foe), (("none",), foe),
            (("none", None), foe), (("none", ("stuck", 0)), foe), (("none", ("state",) + HIGH), foe),
            (("Sure",) + up[1:], foe),
            (("none", turn(1, 2), ()), foe), (("sure", 1, (chain(41, turn(1, 2), True),)), foe),
        )
        self.assert_fault("shown", self.CLAIM, (("sure", 1, (chain(40, turn(1, 2), True),)), foe), ("plan", ()))
        self.assert_papers("broken", self.CLAIM, ("fewer",), ("fewer", plan, foe), ("more", foe), (plan, foe), None, (),
                           ("Fewer", plan), ["fewer", plan], (None, plan), ("fewer", None))
        entry = (1, HIGH, foe)
        for wrong in ((True, HIGH, foe), (2, HIGH, foe), (-2, HIGH, foe), (None, HIGH, foe), (1, HIGH),
                      (1, HIGH, foe, foe), (1, None, foe),
                      list(entry), (1, HIGH, ()), (1, HIGH, (HIGH,)), (1, (HIGH[0], HIGH[1][1:]), foe)):
            self.assert_papers("shown", self.NONE, (wrong,))

    def test_the_form_of_the_foe_comes_before_the_plan(self):
        self.assert_papers("shown", self.CLAIM, (self.UP, (HIGH,)), (self.UP, ()), (self.UP, None))


class Doors(Rows):
    DOORS = ((4, 3), (0, 2))
    # The order of the choices: (), (1,), (0,), (0, 1). With way 0 shut the ways are (0, 2), (1, 3), (2, 3), (1, 2).
    CLAIM = ("doors", BRIDGE, DOORS, (1,))
    STEPS = (("behind", 1), ("beside", 2, 4), ("behind", 2))
    WITHOUT_ACROSS = (("behind", 1), ("behind", 2), ("beside", 4, 5))
    TURNS = ("turns", 4, (0, 4, 3), (1, 4, 2))

    def test_reductions_and_breaks(self):
        self.assert_fault("shown", self.CLAIM, (self.STEPS, (self.TURNS,)), None)
        self.assert_fault("shown", self.CLAIM, (self.STEPS[:2], (self.TURNS,)), ("end",))
        self.assert_papers("shown", self.CLAIM, (self.STEPS[:2], (None,)), (self.STEPS[:2], ()),
                           (None, (("apart", (0,)),)))
        self.assert_fault("shown", self.CLAIM, (self.STEPS + self.STEPS[:1], (self.TURNS,)), ("step", 3))
        self.assert_fault("shown", self.CLAIM, ((("beside", 0, 1),), (("apart", (0,)),)), ("step", 0))
        self.assert_fault("shown", self.CLAIM, ((), (("apart", (0,)),)), ("end",))
        self.assert_fault("shown", self.CLAIM, (self.STEPS, (("apart", (0,)),)), ("break", 0))
        later = ("doors", BRIDGE, self.DOORS, (0,))
        bad = ("turns", 3, (0, 1), (0, 1))
        self.assert_fault("shown", later, (self.WITHOUT_ACROSS, (self.TURNS, bad)), ("break", 1))
        self.assert_fault("shown", later, (self.WITHOUT_ACROSS, (("apart", (0, 1)), bad)), ("break", 0))
        self.assert_fault("shown", ("doors", SQUARE, ((0, 1),), ()), (self.WITHOUT_ACROSS, ()), None)

    def test_lengths_of_breaks(self):
        self.assert_papers(
            "shown", self.CLAIM, (self.STEPS, ()), (self.STEPS, (self.TURNS,) * 2), (self.STEPS, self.TURNS),
            (self.STEPS,),
            (self.STEPS, (self.TURNS,), ()), self.STEPS, (self.TURNS,), (self.STEPS, [self.TURNS]),
            [self.STEPS, (self.TURNS,)], None, (),
        )
        self.assert_papers("shown", ("doors", BRIDGE, (), None), (), (self.TURNS,) * 2, self.TURNS, ((), (self.TURNS,)))
        self.assert_fault("shown", ("doors", BRIDGE, (), None), (self.TURNS,), None)

    def test_no_choice(self):
        # To shut both ways at the inlet parts it from the outlet; to shut one makes the bridge plain.
        claim = ("doors", (3, ((0, 1), (1, 2)), 0, 2), ((0, 5), (1, 4)), None)
        zero = ("apart", (0,))
        self.assert_fault("shown", claim, (zero, ("apart", (0, 1)), zero, zero), ("break", 0))
        line = ("doors", TWINS, ((0, 1), (1, 1), (2, 1)), None)
        self.assert_fault("shown", line, (zero,) * 8, ("break", 0))
        self.assert_papers("shown", line, (zero,) * 7, (zero,) * 9, ((), (zero,) * 8))
        turns = ("doors", BRIDGE, ((0, 1),), None)
        self.assert_fault("shown", turns, (self.TURNS, ("turns", 3, (0, 3, 1), (0, 2))), ("break", 1))

    def test_not_this_choice(self):
        both = ("doors", BRIDGE, ((0, 1), (1, 1)), (0, 1))
        self.assert_fault("broken", both, ("not", ("apart", (0,))), None)
        self.assert_fault("broken", both, ("not", ("apart", (0, 1))), ("break", 0))
        self.assert_fault("broken", both, ("not", ("apart", (0, 1, 2))), ("break", 0))
        self.assert_fault("broken", ("doors", BRIDGE, self.DOORS, ()), ("not", self.TURNS), None)
        self.assert_fault("broken", self.CLAIM, ("not", ("turns", 3, (0, 3, 1), (0, 2))), ("break", 0))
        self.assert_papers("broken", ("doors", BRIDGE, self.DOORS, None), ("not", self.TURNS), ("not", ("apart", (0,))))
        self.assert_papers("broken", self.CLAIM, ("not", self.TURNS), ("not", ("turns", 4, (0, 2), (0, 2))), ("not",),
                           ("not", None), ("not", self.TURNS, ()))

    def test_ahead(self):
        for choice in ((0,), (0, 1), None):
            claim = ("doors", BRIDGE, self.DOORS, choice)
            self.assert_fault("broken", claim, ("ahead", (1,), self.STEPS), None)
            self.assert_fault("broken", claim, ("ahead", (1,), self.STEPS[1:]), ("step", 0))
            self.assert_fault("broken", claim, ("ahead", (1,), self.STEPS[:1]), ("end",))
            self.assert_fault("broken", claim, ("ahead", (), self.STEPS), ("step", 0))
        for other in ((1,), (0,), (0, 1)):
            self.assert_fault("broken", self.CLAIM, ("ahead", other, ()), ("ahead",))
        self.assert_fault("broken", self.CLAIM, ("ahead", (), ()), ("end",))
        self.assert_fault("broken", ("doors", BRIDGE, self.DOORS, None), ("ahead", (0, 1), ()), ("end",))
        self.assert_papers(
            "broken", self.CLAIM, ("ahead", (2,), ()), ("ahead", (1, 0), ()), ("ahead", [0], ()), ("ahead", None, ()),
            ("ahead", (True,), ()), ("ahead", (0, 0), ()), ("ahead", (0,)), ("ahead", (0,), (), ()),
            ("ahead", (0,), None),
            ("ahead", (0,), (("behind", 0),)), ("Ahead", (), ()), ("ahead", (0,), (("beside", 0, 61),)),
            ("not", (), ()),
            None, (), ["ahead", (), ()], ("ahead", 0, ()),
        )

    def test_breaks_that_are_apart(self):
        both = ("doors", (4, ((0, 1), (2, 3), (1, 2)), 0, 3), ((2, 1),), (0,))
        self.assert_fault("broken", both, ("not", ("apart", (0, 1))), None)
        for some in ((0,), (0, 2), (0, 1, 2)):
            self.assert_fault("broken", both, ("not", ("apart", some)), ("break", 0))
        for some in ((), (1,), (0, 3), (0, 1, 3), (1, 0), (0, 0, 1), (0, 4), (-1, 0), (0, True), (False, 1), [0, 1], 0,
                     None):
            self.assert_papers("broken", both, ("not", ("apart", some)))
        upward = ("doors", (4, ((3, 2), (1, 0), (2, 1)), 3, 0), ((2, 1),), (0,))
        self.assert_fault("broken", upward, ("not", ("apart", (2, 3))), None)
        self.assert_fault("broken", upward, ("not", ("apart", (3,))), ("break", 0))
        self.assert_papers("broken", upward, ("not", ("apart", (0, 3))), ("not", ("apart", (2,))),
                           ("not", ("apart", (3, 4))))
        self.assert_papers("broken", both, ("not", ("apart",)), ("not", ("apart", (0, 1), ())),
                           ("not", ("Apart", (0, 1))))

    def test_breaks_that_turn(self):
        claim = ("doors", BRIDGE, (), ())
        one, two = self.TURNS[2:]
        for value, fault in (
            (("turns", 4, one, two), None), (("turns", 4, two, one), ("break", 0)),
            (("turns", 4, one, one), ("break", 0)),
            (("turns", 4, one, ()), ("break", 0)), (("turns", 0, one, two), ("break", 0)),
            (("turns", 5, one, two), PAPER),
            (("turns", True, one, two), PAPER), (("turns", 4, one), PAPER), (("turns", 4, one, two, ()), PAPER),
            (("turns", 4, list(one), two), PAPER), (("turns", 4, one, two + (5,)), PAPER), ((), PAPER), (None, PAPER),
            (("turns", 4, one, (0,) * 13), PAPER), (("turns", 4, one, (0,) * 12), ("break", 0)),
            (("turn", 4, one, two), PAPER),
        ):
            self.assert_fault("broken", claim, ("not", value), fault)

    def test_numbers_of_ways_are_those_of_the_mine_with_the_choice_shut(self):
        # Behind way 0, which is shut, the bridge stands with its ways numbered one less.
        mine = (5, ((0, 4),) + BRIDGE[1] + ((4, 3),), 0, 3)
        claim = ("doors", mine, ((0, 0),), (0,))
        self.assert_fault("broken", claim, ("not", self.TURNS), None)
        self.assert_fault("broken", claim[:3] + ((),), ("not", ("turns", 5, (1, 5, 4), (2, 5, 3))), None)
        self.assert_papers("broken", claim, ("not", ("turns", 6, (0, 4, 3), (1, 4, 2))))
        self.assert_fault("broken", claim[:3] + ((),), ("not", ("turns", 6, (0, 4, 3), (1, 4, 2))), ("break", 0))
        empty = ("doors", PAIR, ((0, 0),), (0,))
        self.assert_fault("broken", empty, ("not", ("apart", (0,))), None)
        self.assert_papers("broken", empty, ("not", ("turns", 0, (), ())), ("not", ("turns", 0, (0,), (0,))))


class Undrawn(Rows):
    FACTS = ((1, 0, 0), (2, 1, 0))
    NEVER = ((2, 0, 0),)

    def test_a_state_and_trees(self):
        # In a row with a way from place 0 to place 1 beside the first one, nothing new can be seen.
        claim = ("undrawn", ROW, ((1, 2, 1),), (0, 1))
        self.assert_fault("shown", claim, (((1, 2, 1), (3, 1, 0)), ()), ("state",))
        self.assert_fault("shown", claim, (((1, 2, 1), (5, 3, 0)), ()), ("state",))
        self.assert_fault("shown", claim, (((1, 2, 1), (2, 1, 0)), ()), None)
        self.assert_fault("shown", ("undrawn", ROW, ((2, 1, 0),), (0, 1)), (((1, 2, 1), (2, 1, 0)), ()), ("facts",))
        self.assert_papers("shown", claim, (((1, 2), (2, 1, 0)), ()), (((1, 2, 1), (2, 1, 0)), (("stuck", 1),)),
                           (((1, 2, 1), (2, 1, 0)),), ((), ()), (((1, 2, 1), (2, 1, 0)), None), None, ("not", ()))

    def test_pairs_before(self):
        mine = (4, ((0, 1), (1, 3), (2, 1)), 0, 3)
        facts = ((2, 1, 1),)
        claim = ("undrawn", mine, facts, (0, 2))
        verdict, _, paper = decide(claim)
        self.assertEqual((verdict, len(paper[1])), ("shown", 1))
        state, (tree,) = paper
        self.assert_fault("shown", claim, (state, (tree,)), None)
        for right in (state, ((1, 1, 1, 1), (5, 3, 4, 0))):
            self.assert_fault("shown", claim, (right, (tree,)), None)
            self.assert_fault("shown", claim, (right, (turn(2, 1),)), ("pair", 0))
        self.assert_fault("shown", claim, (((1, 1, 1, 1), (9, 3, 2, 0)), (turn(2, 1),)), ("state",))
        wrong = ((1, 1, 1, 1), (9, 3, 2, 0))
        self.assert_papers("shown", claim, (wrong, ()), (wrong, (None,)), (wrong, (("stuck", 3),)), ((), (turn(2, 1),)))
        self.assert_papers("shown", claim, (state, ()), (state, (tree, tree)), (state, [tree]),
                           (state, (("stuck", 3),)))
        later = claim[:3] + ((0, 3),)
        self.assert_fault("shown", later, (((1, 1, 1, 1), (2, 1, 1, 0)), (turn(2, 1),) * 2), ("facts",))
        possible = ("undrawn", mine, ((1, 2, 0),), (0, 3))
        self.assert_fault("shown", possible, (((1, 1, 1, 1), (2, 1, 1, 0)), (turn(2, 1),) * 2), ("pair", 0))

    def test_no_pair(self):
        claim = ("undrawn", ROW, self.NEVER, None)
        tree = turn(0, 2)
        self.assert_fault("shown", claim, (tree,) * 3, None)
        for k in range(3):
            trees = [tree] * 3
            trees[k] = turn(2, 0)
            for j in range(k, 3):
                trees[j] = ("ring", ())
                self.assert_fault("shown", claim, tuple(trees), ("pair", k))
            trees[2] = ("stuck", 0)
            self.assert_papers("shown", claim, tuple(trees))
        self.assert_papers("shown", claim, (tree,) * 2, (tree,) * 4, (), None, [tree] * 3, (None, (tree,) * 3), tree)

    def test_not_this_pair(self):
        for pair in rising_pairs(ROW):
            self.assert_fault("broken", ("undrawn", ROW, self.NEVER, pair), ("not", turn(0, 2)), None)
            self.assert_fault("broken", ("undrawn", ROW, self.NEVER, pair), ("not", turn(2, 0)), ("tree", ()))
            self.assert_fault("broken", ("undrawn", ROW, (), pair), ("not", ("stuck", 1)), ("tree", ()))
        self.assert_papers("broken", ("undrawn", ROW, self.NEVER, None), ("not", turn(0, 2)))
        self.assert_papers("broken", ("undrawn", ROW, self.NEVER, (0, 1)), ("not",), ("not", None),
                           ("not", turn(0, 2), ()),
                           ("no", turn(0, 2)), turn(0, 2), ("not", ("stuck", 2)))

    def test_a_stuck_place_with_the_extra_way(self):
        # With another way at place 1 the facts no longer tell that it is stuck.
        facts = ((0, 1, 1), (2, 1, 0))
        mine = (4, ((0, 1), (1, 2), (0, 3)), 0, 2)
        for pair, fault in (((0, 1), None), ((0, 2), None), ((1, 2), None), ((1, 3), ("tree", ()))):
            self.assert_fault("broken", ("undrawn", mine, facts, pair), ("not", ("stuck", 1)), fault)

    def test_ahead(self):
        state = ((1, 1, 2, 1), (2, 1, 1, 0))
        mine = (4, ((0, 1), (1, 3), (1, 2)), 0, 3)
        self.assertIsNone(first_fault(("shown", ("can", extra(mine, (0, 1)), ()), ((1, 2, 1, 1), (2, 1, 1, 0)))))
        right = ((1, 2, 1, 1), (2, 1, 1, 0))
        for pair in (None, (0, 2), (0, 3), (2, 3)):
            claim = ("undrawn", mine, (), pair)
            self.assert_fault("broken", claim, ("ahead", (0, 1), right), None)
            self.assert_fault("broken", claim, ("ahead", (0, 1), state), ("state",))
            self.assert_fault("broken", ("undrawn", mine, ((3, 1, 0),), pair), ("ahead", (0, 1), right), ("facts",))
        claim = ("undrawn", mine, (), (0, 2))
        for other in ((0, 2), (0, 3), (1, 2), (2, 3)):
            self.assert_fault("broken", claim, ("ahead", other, state), ("ahead",))
        self.assert_papers(
            "broken", claim, ("ahead", (1, 0), right), ("ahead", (0, 0), right), ("ahead", (0, 4), right),
            ("ahead", (0,), right),
            ("ahead", [0, 1], right), ("ahead", (False, 1), right), ("ahead", None, right), ("ahead", (0, 1)),
            ("ahead", (0, 1), ((1, 2, 1), right[1])), ("ahead", (0, 1), right, ()), ("ahead", (0, 3), None),
            ("Ahead", (0, 1), right), ["ahead", (0, 1), right], None, (),
        )


class Alike(Rows):
    # The bridge with its way across turned round has other pictures, the same ones in other words.
    TURNED = (4, BRIDGE[1][:4] + ((2, 1),), 0, 3)
    # A row of five ways has one picture.
    FIVE = (6, tuple((k, k + 1) for k in range(5)), 0, 5)

    def test_the_same_pictures(self):
        claim = ("alike", BRIDGE, self.TURNED)
        one = decide(("count", BRIDGE, (), 3))[2]
        two = decide(("count", self.TURNED, (), 3))[2]
        self.assert_fault("shown", claim, (one, two), None)
        self.assert_fault("shown", claim, (("ring", ()), two), ("census", 0))
        self.assert_fault("shown", claim, (one, ("ring", ())), ("census", 1))
        self.assert_fault("shown", claim, (("stuck", 1), ("ring", ())), ("census", 0))
        self.assert_papers("shown", claim, (("ring", ()), ("stuck", 0)), (one,), (one, two, one), [one, two], None, (),
                           (one, None), (one, ("state",) + STILL[:1]))

    def test_other_pictures(self):
        claim = ("alike", BRIDGE, self.FIVE)
        one, five = decide(("count", BRIDGE, (), 3))[2], decide(("count", self.FIVE, (), 1))[2]
        self.assert_fault("shown", claim, (one, five), ("pictures",))
        self.assert_fault("shown", ("alike", self.FIVE, BRIDGE), (five, one), ("pictures",))
        self.assert_fault("shown", claim, (five, one), PAPER)

    def test_a_picture_of_one_mine(self):
        claim = ("alike", BRIDGE, self.FIVE)
        # The picture (1, 1, 1, 1, 0) of the bridge is none of the row: its last way would be still.
        tree = ("stuck", 4)
        self.assert_fault("broken", claim, (0, EVEN, tree), None)
        self.assert_fault("broken", claim, (0, HIGH, tree), ("tree", ()))
        self.assert_fault("broken", claim, (0, LOW, tree), None)
        self.assert_fault("broken", claim, (0, STILL, tree), ("state",))
        self.assert_fault("broken", claim, (0, EVEN, ("case", 0, 5, ("stuck", 3), tree)), ("tree", ("above",)))
        back = ("alike", self.FIVE, BRIDGE)
        self.assert_fault("broken", back, (1, EVEN, tree), None)
        self.assert_fault("broken", back, (1, STILL, ("ring", ())), ("state",))
        row = ((1,) * 5, (5, 4, 3, 2, 1, 0))
        self.assert_fault("broken", back, (0, row, ("stuck", 1)), ("tree", ()))
        self.assert_fault("broken", back, (0, ((1,) * 5, (6, 4, 3, 2, 1, 0)), ("stuck", 1)), ("state",))
        self.assert_papers(
            "broken", claim, (0, row, tree), (1, EVEN, tree), (2, EVEN, tree), (-1, EVEN, tree), (False, EVEN, tree),
            (True, row, tree), (None, EVEN, tree), (0, EVEN), (0, EVEN, tree, ()), [0, EVEN, tree],
            (0, EVEN, ("stuck", 5)),
            (0, EVEN, None), (0, EVEN[:1], tree), (0, tree, EVEN), None, (), (0, EVEN, ("state",) + row),
        )


if __name__ == "__main__":
    unittest.main()
