"""[95] to [97]: taking solids apart, and the papers."""

import random
import unittest
from collections import Counter
from itertools import combinations, permutations

from solidnames.apart import shows_apart, taken_apart
from solidnames.solids import Solid
from tests.cells import random_box, cells_of, solid_of, way_of
from tests.helpers import LIMIT, SIDES, any_values, caught, numbers, strings
from tests.test_pairs import box

WELL = Solid(box(0, 0, 0, 5, 5, 12)) - Solid(box(1, 1, 1, 4, 4, 12))
SHELL = Solid(box(20, 0, 0, 25, 5, 5)) - Solid(box(21, 1, 1, 24, 4, 4))
CORE = Solid(box(22, 2, 2, 23, 3, 3))
FAR = Solid(box(50, 50, 50, 51, 51, 51))


def ring(at, axis):
    """A ring with a square hole along the axis."""
    low, high = [at, 0, 0], [at + 5, 5, 5]
    hole_low, hole_high = [at + 1, 1, 1], [at + 4, 4, 4]
    low[axis], high[axis], hole_low[axis], hole_high[axis] = 2, 3, 2, 3
    return Solid((tuple(low), tuple(high))) - Solid((tuple(hole_low), tuple(hole_high)))


# Two links of a chain.
LINKS = (ring(0, 2), ring(3, 1))


def plain_leaves(sets, index, side, others):
    return all(way_of(sets[other], sets[index], side, 14) is None for other in others if other != index)


def plain_stuck(sets):
    """All stuck sets, tuples."""
    many = range(len(sets))
    ways = {(index, side, other): plain_leaves(sets, index, side, [other]) for index in many for other in many for side in SIDES}
    return [indexes for count in range(2, len(sets) + 1) for indexes in combinations(many, count)
            if not any(all(ways[index, side, other] for other in indexes if other != index) for index in indexes for side in SIDES)]


def right_steps(sets, steps):
    """Whether steps, of the right form, are right."""
    left = list(range(len(sets)))
    for index, side in steps:
        if index not in left or not plain_leaves(sets, index, side, left):
            return False
        left.remove(index)
    return not left


def random_sets(source, many, size):
    """Sets of cells without common ones, that often hook into one another."""
    sets, used = [], set()
    for _ in range(many):
        cells = set()
        for _ in range(source.randrange(1, 6)):
            low = tuple(source.randrange(size) for _ in range(3))
            cells |= cells_of([(low, tuple(number + source.choice([1, 1, 2]) for number in low))])
        cells -= used
        used |= cells
        sets.append(cells)
    return sets


class TakenApartTest(unittest.TestCase):
    def test_one_order(self):
        # A box with a lid that slides in a slot, and a stone that fits through the opening above the lid.
        chest = Solid(box(0, 0, 0, 7, 7, 7)) - Solid(box(1, 1, 1, 6, 6, 5), box(1, 1, 5, 7, 6, 6), box(2, 2, 6, 5, 5, 7))
        lid, stone = Solid(box(1, 1, 5, 7, 6, 6)), Solid(box(2, 2, 1, 5, 5, 4))
        for solids, first in [((chest, lid, stone), 1), ((lid, stone, chest), 0), ((stone, chest, lid), 2)]:
            word, steps = taken_apart(*solids)
            self.assertEqual([word, len(steps), steps[0]], ["apart", 3, (first, "+x")])
        for steps in permutations(range(3)):
            rights = [shows_apart(("apart", ((steps[0], one), (steps[1], other), (steps[2], "-y"))), chest, lid, stone) for one in SIDES for other in SIDES]
            self.assertEqual(sum(rights), 1 if steps[0] == 1 else 0)
        self.assertTrue(shows_apart(("apart", ((1, "+x"), (2, "+z"), (0, "-y"))), chest, lid, stone))
        self.assertTrue(shows_apart(("apart", ((1, "+x"), (0, "-z"), (2, "-y"))), chest, lid, stone))

    def test_in_a_well(self):
        blocks = [Solid(box(1, 1, z, 4, 4, z + 1)) for z in range(1, 8)]
        word, steps = taken_apart(WELL, *blocks)
        self.assertEqual([word, type(steps), len(steps)], ["apart", tuple, 8])
        self.assertTrue(shows_apart((word, steps), WELL, *blocks))
        # With the well as the last one, the blocks leave from above, one after the other.
        order = [(index, "+z") for index in range(7, 0, -1)] + [(0, "+x")]
        self.assertTrue(shows_apart(("apart", tuple(order)), WELL, *blocks))
        for place in range(6):
            other = order[:place] + [order[place + 1], order[place]] + order[place + 2:]
            self.assertFalse(shows_apart(("apart", tuple(other)), WELL, *blocks))

    def test_locked(self):
        self.assertEqual(taken_apart(SHELL, CORE), ("stuck", (0, 1)))
        self.assertEqual(taken_apart(*LINKS), ("stuck", (0, 1)))
        self.assertEqual(taken_apart(FAR, CORE, Solid(), SHELL), ("stuck", (1, 3)))
        self.assertEqual(taken_apart(LINKS[0], CORE, FAR, LINKS[1], SHELL), ("stuck", (0, 1, 3, 4)))
        # A free one that only leaves to some sides, and one that is held by a stuck set alone.
        self.assertEqual(taken_apart(SHELL, Solid(box(21, 1, 1, 22, 2, 2)), CORE, Solid(box(20, 0, 5, 21, 1, 6))), ("stuck", (0, 1, 2)))

    def test_few_and_many(self):
        self.assertEqual([taken_apart(), taken_apart(FAR)[0], taken_apart(Solid())[0]], [("apart", ())] + ["apart"] * 2)
        row = [Solid(box(2 * x, 0, 0, 2 * x + 1, 1, 1)) for x in range(9)]
        word, steps = taken_apart(*row[:8])
        self.assertEqual([word, sorted(index for index, _ in steps)], ["apart", list(range(8))])
        self.assertTrue(shows_apart(taken_apart(*row[1:]), *row[1:]))
        for solids in (row, [FAR] * 9, [Solid()] * 9, row + row):
            self.assertEqual(caught(taken_apart, *solids), ("TooMany", 8))
            self.assertEqual(caught(shows_apart, None, *solids), ("TooMany", 8))

    def test_without_cells(self):
        word, steps = taken_apart(Solid(), SHELL, Solid())
        self.assertEqual([word, sorted(step[0] for step in steps)], ["apart", [0, 1, 2]])
        for side in SIDES:
            self.assertTrue(shows_apart(("apart", ((2, side), (0, side), (1, side))), Solid(), SHELL, Solid()))
        self.assertEqual(taken_apart(Solid(), SHELL, CORE), ("stuck", (1, 2)))
        self.assertFalse(shows_apart(("stuck", (0, 1, 2)), Solid(), SHELL, CORE))

    def test_random(self):
        source = random.Random(160)
        words = Counter()
        for _ in range(70):
            sets = random_sets(source, source.randrange(2, 6), 5)
            solids = [solid_of(cells) for cells in sets]
            paper = taken_apart(*solids)
            self.assertTrue(shows_apart(paper, *solids))
            stuck = plain_stuck(sets)
            if stuck:
                self.assertEqual(paper, ("stuck", tuple(sorted(set(index for indexes in stuck for index in indexes)))))
                self.assertIn(paper[1], stuck)
            else:
                self.assertEqual(paper[0], "apart")
                self.assertTrue(right_steps(sets, paper[1]))
            words[paper[0]] += 1
        self.assertGreater(min(words.values()), 15, words)

    def test_great_coordinates(self):
        shell = Solid(box(-LIMIT, -LIMIT, -LIMIT, LIMIT, LIMIT, LIMIT)) - Solid(box(1 - LIMIT, 1 - LIMIT, 1 - LIMIT, LIMIT - 1, LIMIT - 1, LIMIT - 1))
        core = Solid(box(-5, -5, -5, 5, 5, 5))
        self.assertEqual(taken_apart(shell, core), ("stuck", (0, 1)))
        door = Solid(box(-5, -5, LIMIT - 1, 5, 5, LIMIT))
        self.assertEqual(taken_apart(shell - door, core), ("apart", ((0, "-z"), (1, "-x"))))
        self.assertTrue(shows_apart(("apart", ((1, "+z"), (0, "-y"))), shell - door, core))

    def test_overlapping(self):
        solids = [Solid(box(5, 0, 0, 9, 9, 9)), Solid(box(2, 3, 4, 3, 4, 9)), Solid(box(8, 2, 2, 9, 12, 3)), Solid(box(-5, 3, 6, 3, 9, 7))]
        for order in permutations(range(4)):
            turned = [solids[index] for index in order]
            self.assertEqual(caught(taken_apart, *turned), ("Overlapping", (2, 3, 6)))
            self.assertEqual(caught(shows_apart, ("apart", ()), *turned), ("Overlapping", (2, 3, 6)))
        self.assertEqual(caught(taken_apart, FAR, FAR), ("Overlapping", (50, 50, 50)))
        source = random.Random(161)
        for _ in range(30):
            sets = [cells_of([random_box(source, 0, 6)]) for _ in range(3)]
            common = [cell for one, other in combinations(sets, 2) for cell in one & other]
            if common:
                self.assertEqual(caught(taken_apart, *[solid_of(cells) for cells in sets]), ("Overlapping", min(common)))


class ShowsApartTest(unittest.TestCase):
    def test_other_right_papers(self):
        solids = (LINKS[0], SHELL, FAR, LINKS[1], CORE)
        for indexes in [(0, 1, 3, 4), (0, 3), (1, 4)]:
            self.assertIs(shows_apart(("stuck", indexes), *solids), True)
        for indexes in [(0, 1), (0, 4), (0, 1, 3), (2, 3), (0, 1, 2, 3, 4), (3, 0), (0, 0, 3), (0, 3, 3), (0,), (), (0, 3, 5), (-5, 0), (1, 4, 0, 3)]:
            self.assertIs(shows_apart(("stuck", indexes), *solids), False, indexes)
        self.assertIs(shows_apart(("apart", ()), *solids), False)
        self.assertIs(shows_apart(("apart", ())), True)
        self.assertIs(shows_apart(("stuck", ())), False)

    def test_papers_that_are_wrong_at_each_place(self):
        solids = (Solid(box(0, 0, 0, 1, 1, 1)), Solid(box(2, 0, 0, 3, 1, 1)), Solid(box(4, 0, 0, 5, 1, 1)))
        good = ((0, "-x"), (2, "+x"), (1, "-x"))
        for steps in [good, good[::-1], ((1, "+y"), (0, "+x"), (2, "-x")), ((2, "-z"), (1, "+x"), (0, "+x"))]:
            right = right_steps([{(2 * k, 0, 0)} for k in range(3)], steps)
            self.assertIs(shows_apart(("apart", steps), *solids), right, steps)
        self.assertIs(shows_apart(("apart", good), *solids), True)
        wrong = [good[:2], good[1:], good + ((0, "-x"),), good + good, (good[0], good[0], good[1]), list(good), good[0], (good,),
                 ((0, "+x"), *good[1:]), (good[0], (2, "-x"), good[2]), ((1, "-x"), good[0], good[1])]
        for place in range(3):
            index, side = good[place]
            for step in [(index,), (side, index), [index, side], (index, side, 0), (3, side), (-1, side), (index, "x"), (index, None), None, index,
                         side, (None, side), (str(index), side), (index, side.upper()), (index, side[1] + side[0]), (index, side + " ")]:
                wrong.append(good[:place] + (step,) + good[place + 1:])
        wrong += [((False, "-x"), *good[1:]), (good[0], good[1], (True, "-x"))]
        for steps in wrong:
            self.assertIs(shows_apart(("apart", steps), *solids), False, steps)
        for value in [("Apart", good), ("stuck", good), ("apart", good, good), ("apart",), ["apart", good], good, (good, "apart")]:
            self.assertIs(shows_apart(value, *solids), False, value)

    def test_stuck_forms(self):
        for value in [("stuck", [0, 1]), ["stuck", (0, 1)], ("stuck", (False, True)), ("stuck", (0, True)), ("stuck", ("0", "1")), ("stuck", "01"),
                      ("stuck", (0, 1), 2), ("stuck", 0, 1), ("stuck", None), ("stuck", (None, 1)), ("stuck", (0, (1,))), ("Stuck", (0, 1)),
                      ("apart", (0, 1)), (None, (0, 1)), ("stuck", {}), ("stuck", SHELL), (0, 1)]:
            self.assertIs(shows_apart(value, SHELL, CORE), False, value)
        self.assertIs(shows_apart(("stuck", (0, 1)), SHELL, CORE), True)

    def test_any_value(self):
        for value in any_values() + strings() + numbers():
            for solids in [(), (FAR,), (SHELL, CORE), (WELL, FAR)]:
                self.assertIs(shows_apart(value, *solids), False, repr(value))
            for told in [("apart", value), ("stuck", value), (value, ()), ("apart", (value,)), ("stuck", (value, value)), (value, ((0, "+x"),))]:
                self.assertIs(shows_apart(told, FAR), False, repr(told)) if told != ("apart", ()) else None

    def test_random(self):
        source = random.Random(162)
        accepted = Counter()
        for _ in range(50):
            sets = random_sets(source, source.randrange(2, 5), 4)
            solids = [solid_of(cells) for cells in sets]
            stuck = plain_stuck(sets)
            for count in range(len(sets) + 1):
                for indexes in combinations(range(len(sets)), count):
                    self.assertEqual(shows_apart(("stuck", indexes), *solids), indexes in stuck)
                    accepted["stuck", indexes in stuck] += 1
            for order in permutations(range(len(sets))):
                for _ in range(3):
                    steps = tuple((index, source.choice(SIDES)) for index in order)
                    right = right_steps(sets, steps)
                    self.assertEqual(shows_apart(("apart", steps), *solids), right)
                    accepted["apart", right] += 1
        self.assertGreater(min(accepted.values()), 20, accepted)


if __name__ == "__main__":
    unittest.main()
