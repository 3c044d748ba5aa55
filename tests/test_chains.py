"""Point 9: chains, gaps, worths, and a chain whose worth is what the lazy path carries."""

import copy
import itertools
import unittest

from flyloft.chains import chain_of, gap, worth
from flyloft.paths import carried, lazy
from helper import dice_of

GREAT = 10 ** 59


def any_stretches(dice, many, most):
    return [tuple(sorted([dice.randint(0, most), dice.randint(0, most)])) for k in range(many)]


def fewest_carried(begin, stretches):
    paths = itertools.product(*[range(least, most + 1) for least, most in stretches])
    return min(carried(begin, list(path)) for path in paths)


class Gaps(unittest.TestCase):

    def both_ways(self, one, other, told):
        self.assertEqual(gap(one, other), told)
        self.assertEqual(gap(other, one), told)
        self.assertIs(type(gap(one, other)), int)

    def test_apart(self):
        self.both_ways((0, 2), (5, 9), 3)
        self.both_ways((0, 2), (3, 3), 1)
        self.both_ways((4, 4), (9, 9), 5)
        self.both_ways((0, 0), (GREAT, GREAT + 5), GREAT)

    def test_touching_at_one_count(self):
        self.both_ways((0, 3), (3, 9), 0)
        self.both_ways((3, 3), (3, 9), 0)

    def test_overlapping(self):
        self.both_ways((0, 5), (3, 9), 0)
        self.both_ways((0, 5), (0, 9), 0)

    def test_one_within_the_other(self):
        self.both_ways((0, 9), (3, 5), 0)
        self.both_ways((0, 9), (4, 4), 0)
        self.both_ways((2, 7), (2, 7), 0)

    def test_against_each_pair_of_counts(self):
        stretches = [(least, most) for least in range(6) for most in range(least, 6)]
        for one in stretches:
            for other in stretches:
                pairs = itertools.product(range(one[0], one[1] + 1), range(other[0], other[1] + 1))
                self.assertEqual(gap(one, other), min(abs(a - b) for a, b in pairs))


class Worths(unittest.TestCase):

    STRETCHES = [(3, 5), (8, 9), (0, 4), (6, 6)]

    def test_no_chain(self):
        self.assertEqual(worth(0, self.STRETCHES, []), 0)
        self.assertEqual(worth(7, [], []), 0)

    def test_of_one_number(self):
        for number in range(5):
            self.assertEqual(worth(100, self.STRETCHES, [number]), 0)
        self.assertEqual(worth(7, [], [0]), 0)

    def test_with_nought(self):
        self.assertEqual(worth(0, self.STRETCHES, [0, 1]), 3)
        self.assertEqual(worth(10, self.STRETCHES, [0, 1]), 5)
        self.assertEqual(worth(4, self.STRETCHES, [0, 1]), 0)
        self.assertEqual(worth(0, self.STRETCHES, [0, 2, 3, 4]), 8 + 4 + 2)
        self.assertEqual(worth(0, self.STRETCHES, [0, 1, 2, 3, 4]), 3 + 3 + 4 + 2)

    def test_without_nought(self):
        self.assertEqual(worth(0, self.STRETCHES, [1, 2]), 3)
        self.assertEqual(worth(0, self.STRETCHES, [2, 3]), 4)
        self.assertEqual(worth(0, self.STRETCHES, [1, 3, 4]), 2)
        self.assertEqual(worth(0, self.STRETCHES, [2, 4]), 2)

    def test_of_many_and_great(self):
        stretches = [(0, 0), (GREAT, GREAT)] * 50
        self.assertEqual(worth(0, stretches, list(range(101))), 99 * GREAT)
        self.assertEqual(worth(0, stretches, list(range(0, 101, 2))), GREAT)
        self.assertEqual(worth(0, stretches, list(range(1, 101, 2))), 0)

    def test_no_path_carries_less_than_any_chain(self):
        dice = dice_of(9)
        for number in range(150):
            stretches = any_stretches(dice, dice.randint(0, 4), 5)
            begin = dice.randint(0, 5)
            fewest = fewest_carried(begin, stretches)
            for many in range(len(stretches) + 2):
                for chain in itertools.combinations(range(len(stretches) + 1), many):
                    self.assertLessEqual(worth(begin, stretches, list(chain)), fewest)


class Shown(unittest.TestCase):

    def shows(self, begin, stretches):
        """The worth is added up here once more, by the words of the document."""
        kept = copy.deepcopy(stretches)
        chain = chain_of(begin, stretches)
        self.assertIs(type(chain), list)
        self.assertEqual(stretches, kept)
        self.assertTrue(all(type(number) is int and 0 <= number <= len(stretches) for number in chain))
        self.assertTrue(all(one < other for one, other in zip(chain, chain[1:])))
        linked = [([(begin, begin)] + stretches)[number] for number in chain]
        total = sum(max(0, one[0] - other[1], other[0] - one[1]) for one, other in zip(linked, linked[1:]))
        self.assertEqual(worth(begin, stretches, chain), total)
        self.assertEqual(total, carried(begin, lazy(begin, stretches)))
        return total

    def test_no_stretches(self):
        self.assertEqual(self.shows(0, []), 0)
        self.assertEqual(self.shows(GREAT, []), 0)

    def test_nothing_carried(self):
        self.assertEqual(self.shows(4, [(0, 4), (4, 4), (3, 9)]), 0)

    def test_rising_falling_and_both(self):
        self.assertEqual(self.shows(0, [(3, 5)]), 3)
        self.assertEqual(self.shows(9, [(3, 5)]), 4)
        self.assertEqual(self.shows(0, [(1, 9), (0, 9), (4, 9), (8, 9)]), 8)
        self.assertEqual(self.shows(9, [(0, 6), (0, 6), (0, 1)]), 8)
        self.assertEqual(self.shows(0, [(3, 5), (4, 9), (0, 4), (0, 2), (1, 1), (2, 8)]), 8)

    def test_small_ones_with_all_paths_tried(self):
        dice = dice_of(10)
        for number in range(400):
            stretches = any_stretches(dice, dice.randint(0, 5), 4)
            begin = dice.randint(0, 4)
            self.assertEqual(self.shows(begin, stretches), fewest_carried(begin, stretches))

    def test_all_of_three_rests(self):
        stretches = [(least, most) for least in range(4) for most in range(least, 4)]
        for three in itertools.product(stretches, repeat=3):
            for begin in range(4):
                self.assertEqual(self.shows(begin, list(three)), fewest_carried(begin, list(three)))

    def test_many_of_small_and_of_great_counts(self):
        dice = dice_of(11)
        for most in (1, 3, 60, 1000, 10 ** 60 - 1):
            for number in range(60):
                self.shows(dice.randint(0, most), any_stretches(dice, dice.randint(0, 100), most))

    def test_narrow_ones(self):
        dice = dice_of(12)
        for number in range(200):
            leasts = [dice.randint(0, 30) for k in range(dice.randint(0, 100))]
            self.shows(dice.randint(0, 30), [(least, least + dice.randint(0, 6)) for least in leasts])

    def test_a_told_chain_is_the_askers_own(self):
        stretches = [(3, 5), (0, 1)]
        first = chain_of(0, stretches)
        kept = list(first)
        second = chain_of(0, stretches)
        first.append(9)
        self.assertEqual(second, kept)
        self.assertEqual(chain_of(0, stretches), kept)
        chain_of(0, []).append(1)
        self.assertEqual(self.shows(0, []), 0)
        worth(0, stretches, kept)
        self.assertEqual(kept, second)


if __name__ == "__main__":
    unittest.main()
