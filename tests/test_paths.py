"""Point 8: rests, stretches, paths, what a path carries, the lazy path."""

import copy
import unittest

from flyloft.paths import carried, lazy, nearest
from helper import dice_of

GREAT = 10 ** 59


class Nearest(unittest.TestCase):

    def test_below_in_and_above(self):
        self.assertEqual([nearest(count, (3, 6)) for count in range(10)], [3, 3, 3, 3, 4, 5, 6, 6, 6, 6])
        self.assertIs(type(nearest(1, (3, 6))), int)

    def test_of_one_count(self):
        self.assertEqual([nearest(count, (2, 2)) for count in range(5)], [2, 2, 2, 2, 2])
        self.assertEqual([nearest(count, (0, 0)) for count in range(3)], [0, 0, 0])

    def test_from_nought(self):
        self.assertEqual([nearest(count, (0, 2)) for count in range(5)], [0, 1, 2, 2, 2])

    def test_of_sixty_figures(self):
        stretch = (GREAT + 3, GREAT + 6)
        self.assertEqual(nearest(0, stretch), GREAT + 3)
        self.assertEqual(nearest(GREAT + 2, stretch), GREAT + 3)
        self.assertEqual(nearest(GREAT + 3, stretch), GREAT + 3)
        self.assertEqual(nearest(GREAT + 5, stretch), GREAT + 5)
        self.assertEqual(nearest(GREAT + 6, stretch), GREAT + 6)
        self.assertEqual(nearest(10 * GREAT - 1, stretch), GREAT + 6)

    def test_it_is_in_the_stretch_and_none_in_it_is_nearer(self):
        for least in range(6):
            for most in range(least, 6):
                for count in range(8):
                    told = nearest(count, (least, most))
                    self.assertTrue(least <= told <= most)
                    self.assertEqual(abs(told - count), min(abs(k - count) for k in range(least, most + 1)))


class Lazy(unittest.TestCase):

    def test_no_stretches(self):
        self.assertEqual(lazy(0, []), [])
        self.assertEqual(lazy(GREAT, []), [])

    def test_one(self):
        self.assertEqual(lazy(0, [(3, 5)]), [3])
        self.assertEqual(lazy(4, [(3, 5)]), [4])
        self.assertEqual(lazy(9, [(3, 5)]), [5])

    def test_many(self):
        self.assertEqual(lazy(0, [(3, 5), (4, 9), (0, 4), (0, 2), (1, 1), (2, 8)]), [3, 4, 4, 2, 1, 2])
        self.assertEqual(lazy(7, [(0, 9), (7, 7), (0, 0), (5, 6)]), [7, 7, 0, 5])
        self.assertEqual(lazy(0, [(GREAT, GREAT + 1), (5, GREAT - 1)]), [GREAT, GREAT - 1])

    def test_one_count_of_each_in_the_order_of_the_rests(self):
        dice = dice_of(8)
        for number in range(300):
            ends = [sorted([dice.randint(0, 20), dice.randint(0, 20)]) for k in range(dice.randint(0, 100))]
            stretches = [tuple(end) for end in ends]
            count = begin = dice.randint(0, 20)
            path = lazy(begin, stretches)
            self.assertEqual(len(path), len(stretches))
            for later, stretch in zip(path, stretches):
                self.assertEqual(later, nearest(count, stretch))
                count = later


class Carried(unittest.TestCase):

    def test_no_path(self):
        self.assertEqual(carried(0, []), 0)
        self.assertEqual(carried(5, []), 0)

    def test_rising_falling_and_staying(self):
        self.assertEqual(carried(0, [1, 4, 9]), 9)
        self.assertEqual(carried(9, [4, 1, 0]), 9)
        self.assertEqual(carried(3, [3, 3, 3]), 0)
        self.assertEqual(carried(3, [5]), 2)
        self.assertEqual(carried(5, [3]), 2)
        self.assertEqual(carried(2, [5, 1, 1, 4]), 10)

    def test_sixty_figures(self):
        self.assertEqual(carried(0, [GREAT, 0, GREAT + 7]), 3 * GREAT + 7)
        self.assertEqual(carried(10 * GREAT - 1, [0, 10 * GREAT - 1] * 50), 100 * (10 * GREAT - 1))


class Copies(unittest.TestCase):

    def test_lists_stay_as_they_were(self):
        stretches = [(3, 5), (0, 1), (7, 7)]
        path = [3, 1, 7]
        kept = copy.deepcopy((stretches, path))
        lazy(0, stretches)
        carried(0, path)
        self.assertEqual((stretches, path), kept)

    def test_a_told_path_is_the_askers_own(self):
        stretches = [(3, 5), (0, 1)]
        first = lazy(0, stretches)
        second = lazy(0, stretches)
        first.append(9)
        first[0] = 8
        self.assertEqual(second, [3, 1])
        self.assertEqual(lazy(0, stretches), [3, 1])
        none = lazy(0, [])
        none.append(1)
        self.assertEqual(lazy(0, []), [])


if __name__ == "__main__":
    unittest.main()
