"""Points 13 and 14: turns, ways, the least number of turns, the least number of hands."""

import copy
import itertools
import unittest

from flyloft.errors import Meets, Out
from flyloft.rigs import Rig
from flyloft.turns import least_hands, least_turns, turned
from helper import bar_line, dice_of, refusal

RIG = Rig([
    "plate 10",
    bar_line("a", top=20, at=0),
    bar_line("b", top=25, at=1),
    bar_line("c", top=30, at=2),
    "bay x a b c",
])
NONE = {"a": 0, "b": 0, "c": 0}
GREAT = 10 ** 59


def heights_of(a, b, c):
    return {"a": a, "b": b, "c": c}


class Turned(unittest.TestCase):

    def tells(self, heights, moves, behind, drops=None):
        drops = drops or dict(NONE)
        kept = copy.deepcopy((heights, drops, moves))
        told = turned(RIG, heights, drops, moves)
        self.assertIs(type(told), dict)
        self.assertEqual(told, behind)
        self.assertIsNot(told, heights)
        self.assertEqual((heights, drops, moves), kept)

    def test_no_move(self):
        self.tells(heights_of(1, 2, 3), [], heights_of(1, 2, 3))

    def test_one(self):
        self.tells(heights_of(1, 5, 9), [("b", 1)], heights_of(1, 6, 9))
        self.tells(heights_of(1, 5, 9), [("a", -1)], heights_of(0, 5, 9))

    def test_all_bars_up_and_down(self):
        self.tells(heights_of(1, 2, 3), [("a", 1), ("b", 1), ("c", 1)], heights_of(2, 3, 4))
        self.tells(heights_of(1, 2, 3), [("c", -1), ("b", -1), ("a", -1)], heights_of(0, 1, 2))
        self.tells(heights_of(5, 9, 12), [("a", 1), ("c", -1), ("b", 1)], heights_of(6, 10, 11))

    def test_all_at_once(self):
        self.tells(heights_of(1, 2, 3), [("a", 1), ("b", 1), ("c", 1)], heights_of(2, 3, 4))
        self.tells(heights_of(1, 2, 9), [("a", 1), ("b", 1)], heights_of(2, 3, 9))

    def test_with_drops(self):
        self.tells(heights_of(2, 5, 9), [("b", -1)], heights_of(2, 4, 9), {"a": 2, "b": 1, "c": 1})

    def test_out(self):
        for heights, moves, bar in (
            (heights_of(20, 22, 30), [("a", 1)], "a"),
            (heights_of(0, 5, 9), [("a", -1)], "a"),
            (heights_of(20, 25, 30), [("c", 1), ("b", 1)], "b"),
            (heights_of(20, 25, 30), [("c", 1)], "c"),
        ):
            e = refusal(self, Out, turned, RIG, heights, dict(NONE), moves)
            self.assertEqual(e.bar, bar)
        e = refusal(self, Out, turned, RIG, heights_of(2, 5, 9), {"a": 2, "b": 0, "c": 0}, [("a", -1)])
        self.assertEqual(e.bar, "a")

    def test_meets(self):
        for heights, moves, pair in (
            (heights_of(1, 2, 3), [("a", 1)], ("a", "b")),
            (heights_of(1, 2, 3), [("a", 1), ("b", 1)], ("b", "c")),
            (heights_of(1, 3, 5), [("a", 1), ("b", -1)], ("a", "b")),
            (heights_of(1, 2, 3), [("c", -1), ("a", 1)], ("a", "b")),
        ):
            e = refusal(self, Meets, turned, RIG, heights, dict(NONE), moves)
            self.assertEqual((e.low, e.high), pair)
        e = refusal(self, Meets, turned, RIG, heights_of(1, 5, 9), {"a": 0, "b": 3, "c": 0}, [("b", -1)])
        self.assertEqual((e.low, e.high), ("a", "b"))

    def test_out_goes_ahead_of_meets(self):
        e = refusal(self, Out, turned, RIG, heights_of(0, 1, 30), dict(NONE), [("a", 1), ("c", 1)])
        self.assertEqual(e.bar, "c")

    def test_how_it_was_ahead_is_not_asked(self):
        self.tells(heights_of(2, 2, 9), [("a", -1)], heights_of(1, 2, 9))
        self.tells(heights_of(-1, 2, 9), [("a", 1)], heights_of(0, 2, 9))
        self.tells(heights_of(1, 2, 31), [("c", -1)], heights_of(1, 2, 30))
        e = refusal(self, Meets, turned, RIG, heights_of(3, 2, 9), dict(NONE), [("a", -1)])
        self.assertEqual((e.low, e.high), ("a", "b"))
        refusal(self, Out, turned, RIG, heights_of(1, 2, 31), dict(NONE), [])

    def test_a_told_dict_is_the_askers_own(self):
        heights = heights_of(1, 5, 9)
        first = turned(RIG, heights, dict(NONE), [])
        first["a"] = 4
        self.assertEqual(heights, heights_of(1, 5, 9))
        second = turned(RIG, heights, dict(NONE), [])
        heights["b"] = 3
        self.assertEqual(second, heights_of(1, 5, 9))


def done_in(ways, hands, turns):
    """Whether the ways can be gone in so many turns, each turn tried in every manner."""
    if max(ways, default=0) == 0:
        return True
    if turns == 0:
        return False
    going = [k for k, way in enumerate(ways) if way]
    for some in itertools.combinations(going, min(hands, len(going))):
        if done_in([way - (k in some) for k, way in enumerate(ways)], hands, turns - 1):
            return True
    return False


class Least(unittest.TestCase):

    def turns(self, ways, hands, number):
        kept = list(ways)
        told = least_turns(ways, hands)
        self.assertIs(type(told), int)
        self.assertEqual(told, number)
        self.assertEqual(ways, kept)

    def hands(self, ways, turns, number):
        kept = list(ways)
        told = least_hands(ways, turns)
        self.assertIs(type(told), type(number))
        self.assertEqual(told, number)
        self.assertEqual(ways, kept)

    def test_turns_of_no_ways_and_of_nought(self):
        for hands in range(1, 9):
            self.turns([], hands, 0)
            self.turns([0], hands, 0)
            self.turns([0, 0, 0], hands, 0)

    def test_turns_of_one_great_way(self):
        for hands in range(1, 9):
            self.turns([60], hands, 60)
        self.turns([60, 1, 1], 2, 60)
        self.turns([60, 1, 1], 1, 62)

    def test_turns_of_many_like_ones(self):
        self.assertEqual([least_turns([5] * 8, hands) for hands in range(1, 9)], [40, 20, 14, 10, 8, 7, 6, 5])
        self.turns([1] * 8, 3, 3)
        self.turns([1] * 9, 3, 3)
        self.turns([1] * 10, 3, 4)

    def test_turns_of_sixty_figures(self):
        self.turns([GREAT, GREAT, 1], 1, 2 * GREAT + 1)
        self.turns([GREAT, GREAT, 1], 2, GREAT + 1)
        self.turns([GREAT, GREAT, 1], 3, GREAT)
        self.turns([10 * GREAT - 1] * 100, 8, (1000 * GREAT - 100 + 7) // 8)

    def test_hands_of_no_ways_and_of_nought(self):
        for turns in (0, 1, 5, GREAT):
            self.hands([], turns, 1)
            self.hands([0, 0], turns, 1)

    def test_hands_where_a_way_is_greater_than_the_turns(self):
        self.hands([1], 0, None)
        self.hands([0, 3, 1], 2, None)
        self.hands([GREAT], GREAT - 1, None)
        self.hands([0, 3, 1], 3, 2)

    def test_hands_just_enough_one_fewer_and_more(self):
        self.hands([5] * 8, 40, 1)
        self.hands([5] * 8, 39, 2)
        self.hands([5] * 8, 41, 1)
        self.hands([5] * 8, 20, 2)
        self.hands([5] * 8, 19, 3)
        self.hands([5] * 8, 5, 8)
        self.hands([5] * 8, 4, None)
        self.hands([3, 4], 1000, 1)

    def test_hands_may_be_more_than_eight(self):
        self.hands([1] * 9, 1, 9)
        self.hands([2] * 100, 2, 100)
        self.hands([GREAT] * 50, GREAT, 50)
        self.hands([GREAT] * 50, GREAT + 1, 50)
        self.hands([GREAT] * 50, 2 * GREAT, 25)

    def test_against_each_manner(self):
        dice = dice_of(51)
        for number in range(120):
            ways = [dice.randint(0, 3) for k in range(dice.randint(0, 4))]
            hands = dice.randint(1, 4)
            turns = least_turns(ways, hands)
            self.assertTrue(done_in(ways, hands, turns))
            self.assertFalse(turns and done_in(ways, hands, turns - 1))

    def test_hands_against_turns(self):
        dice = dice_of(52)
        for number in range(500):
            ways = [dice.randint(0, 60) for k in range(dice.randint(0, 8))]
            turns = dice.randint(0, 120)
            enough = [hands for hands in range(1, 500) if least_turns(ways, hands) <= turns]
            self.hands(ways, turns, [*enough, None][0])


if __name__ == "__main__":
    unittest.main()
