"""Point 15: flights, and what refuses one."""

import copy
import unittest

from flyloft.errors import Meets, Out, TooFar, TooFew
from flyloft.flights import flight, timely
from flyloft.rigs import Rig
from helper import any_clear, any_rig, bar_line, dice_of, is_clear, refusal

EIGHT = Rig(["plate 1", *[bar_line(bar, top=60, at=k) for k, bar in enumerate("abcdefgh")], "bay x a b c d e f g h"])
THREE = Rig(["plate 1", *[bar_line(bar, top=20, at=k) for k, bar in enumerate("abc")], "bay x a b c"])
APART = Rig(["plate 1", *[bar_line(bar, top=60) for bar in "hgfedcba"]])


def fewest(heights, goal, hands):
    ways = [abs(goal[bar] - heights[bar]) for bar in goal]
    return max([0, *ways, -(-sum(ways) // hands)])


def side_by_side(least):
    return {bar: least + k for k, bar in enumerate("abcdefgh")}


def no_drops(rig):
    return {bar: 0 for bar in rig.bars()}


class Case(unittest.TestCase):

    def flies(self, rig, heights, drops, goal, hands):
        kept = copy.deepcopy((heights, drops, goal))
        turns = flight(rig, heights, drops, goal, hands)
        self.assertIs(type(turns), list)
        self.assertEqual((heights, drops, goal), kept)
        self.follows(rig, turns, heights, drops, goal, hands)
        self.assertEqual(len(turns), fewest(heights, goal, hands))
        self.in_time(rig, heights, drops, goal, hands, len(turns))
        return turns

    def follows(self, rig, turns, heights, drops, goal, hands):
        """Goes turn by turn, by the words of the document."""
        now = dict(heights)
        for moves in turns:
            self.assertIs(type(moves), list)
            self.assertTrue(1 <= len(moves) <= hands)
            self.assertEqual(len({move[0] for move in moves}), len(moves))
            for move in moves:
                self.assertIs(type(move), tuple)
                way = goal[move[0]] - now[move[0]]
                self.assertNotEqual(way, 0)
                self.assertEqual(move[1], 1 if way > 0 else -1)
                now[move[0]] += move[1]
            self.assertTrue(is_clear(rig, now, drops), (turns, now))
        self.assertEqual(now, {**heights, **goal})

    def in_time(self, rig, heights, drops, goal, hands, least):
        for turns in (least, least + 1, 500):
            told = timely(rig, heights, drops, goal, hands, turns)
            self.assertEqual(len(told), least)
            self.follows(rig, told, heights, drops, goal, hands)
        for turns in {0, least // 2, least - 1}:
            if 0 <= turns < least:
                self.not_in_time(rig, heights, drops, goal, hands, turns)

    def not_in_time(self, rig, heights, drops, goal, hands, turns):
        ways = {bar: abs(goal[bar] - heights[bar]) for bar in goal}
        far = [bar for bar in rig.bars() if ways.get(bar, 0) > turns]
        if far:
            e = refusal(self, TooFar, timely, rig, heights, drops, goal, hands, turns)
            self.assertEqual((e.bar, e.lacks), (far[0], ways[far[0]] - turns))
        else:
            e = refusal(self, TooFew, timely, rig, heights, drops, goal, hands, turns)
            self.assertEqual(e.lacks, sum(ways.values()) - hands * turns)
        self.assertIs(type(e.lacks), int)


class Flights(Case):

    def test_no_way_at_all(self):
        heights = side_by_side(5)
        for goal in ({}, {"a": 5}, dict(heights)):
            for hands in (1, 8):
                self.assertEqual(self.flies(EIGHT, heights, no_drops(EIGHT), goal, hands), [])

    def test_one_bar(self):
        heights = {"a": 3, "b": 9, "c": 15}
        self.assertEqual(flight(THREE, heights, no_drops(THREE), {"b": 11}, 1), [[("b", 1)], [("b", 1)]])
        self.assertEqual(flight(THREE, heights, no_drops(THREE), {"b": 8}, 4), [[("b", -1)]])
        self.flies(THREE, heights, no_drops(THREE), {"b": 4}, 2)

    def test_close_upon_one_another_up_and_down(self):
        for hands in range(1, 9):
            for many in range(1, 9):
                bars = "abcdefgh"[:many]
                rig = Rig(["plate 1", *[bar_line(bar, at=k) for k, bar in enumerate(bars)],
                           *(["bay x " + " ".join(bars)] if many > 1 else [])])
                low = {bar: k for k, bar in enumerate(bars)}
                high = {bar: k + 7 for k, bar in enumerate(bars)}
                self.flies(rig, low, no_drops(rig), high, hands)
                self.flies(rig, high, no_drops(rig), low, hands)

    def test_close_with_drops(self):
        drops = {bar: 2 for bar in "abcdefgh"}
        low = {bar: 2 + 3 * k for k, bar in enumerate("abcdefgh")}
        high = {bar: 30 + 3 * k for k, bar in enumerate("abcdefgh")}
        for hands in range(1, 9):
            self.flies(EIGHT, low, drops, high, hands)
            self.flies(EIGHT, high, drops, low, hands)

    def test_apart_and_together(self):
        close, wide = side_by_side(20), {bar: 7 * k for k, bar in enumerate("abcdefgh")}
        for hands in range(1, 9):
            self.flies(EIGHT, close, no_drops(EIGHT), wide, hands)
            self.flies(EIGHT, wide, no_drops(EIGHT), close, hands)

    def test_one_far_way_beside_many_short_ones(self):
        heights = side_by_side(0)
        goal = {"h": 60, "a": 1, "b": 2, "c": 3, "d": 4, "e": 5, "f": 6, "g": 7}
        for hands in range(1, 9):
            self.flies(EIGHT, heights, no_drops(EIGHT), goal, hands)
        self.assertEqual(len(flight(EIGHT, heights, no_drops(EIGHT), goal, 2)), 53)
        self.assertEqual(len(flight(EIGHT, heights, no_drops(EIGHT), goal, 1)), 60)

    def test_bars_that_may_pass_one_another(self):
        heights = {bar: 7 * k for k, bar in enumerate("abcdefgh")}
        goal = {bar: 49 - 7 * k for k, bar in enumerate("abcdefgh")}
        for hands in range(1, 9):
            self.flies(APART, heights, no_drops(APART), goal, hands)

    def test_a_bar_that_goes_up_above_one_that_goes_down(self):
        heights = {"a": 9, "b": 10, "c": 11}
        self.flies(THREE, heights, no_drops(THREE), {"a": 0, "b": 5, "c": 20}, 1)
        self.flies(THREE, {"a": 0, "b": 10, "c": 20}, no_drops(THREE), {"a": 9, "b": 10, "c": 11}, 1)

    def test_lines_of_the_bars_in_any_order(self):
        rig = Rig(["plate 1", bar_line("c", at=2), bar_line("a", at=0), bar_line("b", at=1), "bay x a b", "bay y b c"])
        for hands in (1, 2, 3):
            self.flies(rig, {"a": 0, "b": 1, "c": 2}, no_drops(rig), {"a": 5, "b": 6, "c": 7}, hands)
            self.flies(rig, {"a": 5, "b": 6, "c": 7}, no_drops(rig), {"c": 2, "a": 0, "b": 1}, hands)

    def test_many(self):
        dice = dice_of(61)
        flown = several = 0
        for number in range(6000):
            rig = any_rig(dice)
            drops = {bar: dice.choice([0, 0, 0, 1, 3]) for bar in rig.bars()}
            spread = dice.choice([0, 1, 3, 20])
            heights, others = any_clear(dice, rig, drops, spread), any_clear(dice, rig, drops, dice.choice([spread, 9]))
            if heights is None or others is None:
                continue
            goal = {bar: others[bar] for bar in dice.sample(rig.bars(), dice.randint(0, len(rig.bars())))}
            if dice.randint(0, 1):
                goal = dict(others)
            if is_clear(rig, {**heights, **goal}, drops):
                self.flies(rig, heights, drops, goal, dice.randint(1, 8))
                flown += 1
                several += len(rig.bays()) > 1 and len(goal) > 3
        self.assertGreater(flown, 1500)
        self.assertGreater(several, 200)

    def test_shifted_side_by_side(self):
        dice = dice_of(62)
        flown = 0
        for number in range(3000):
            rig = any_rig(dice, top=(40, 60))
            drops = {bar: dice.choice([0, 0, 1]) for bar in rig.bars()}
            heights = any_clear(dice, rig, drops, dice.choice([0, 1]))
            way = dice.choice([-5, -3, 3, 5, 9])
            goal = {} if heights is None else {bar: heights[bar] + way for bar in heights}
            if goal and is_clear(rig, goal, drops):
                self.flies(rig, heights, drops, goal, dice.randint(1, 8))
                self.flies(rig, goal, drops, heights, dice.randint(1, 8))
                flown += 1
        self.assertGreater(flown, 500)

    def test_told_turns_are_the_askers_own(self):
        heights = {"a": 3, "b": 9, "c": 15}
        first = flight(THREE, heights, no_drops(THREE), {"b": 11}, 1)
        first[0].append(("c", 1))
        first.append([])
        self.assertEqual(flight(THREE, heights, no_drops(THREE), {"b": 11}, 1), [[("b", 1)], [("b", 1)]])


class Refused(Case):

    HEIGHTS = {"a": 3, "b": 9, "c": 15}

    def not_clear(self, goal, kind, fields, drops=None):
        """Refused so whatever the turns are."""
        drops = drops or no_drops(THREE)
        for hands in (1, 8):
            refusals = [refusal(self, kind, flight, THREE, self.HEIGHTS, drops, goal, hands)]
            for turns in (0, 1, 500):
                refusals.append(refusal(self, kind, timely, THREE, self.HEIGHTS, drops, goal, hands, turns))
            for e in refusals:
                self.assertEqual(vars(e), fields)

    def test_out(self):
        self.not_clear({"c": 21}, Out, {"bar": "c"})
        self.not_clear({"c": 60, "b": 30}, Out, {"bar": "b"})
        self.not_clear({"a": -1}, Out, {"bar": "a"})
        self.not_clear({"a": 1}, Out, {"bar": "a"}, {"a": 2, "b": 0, "c": 0})

    def test_meets(self):
        self.not_clear({"a": 9}, Meets, {"low": "a", "high": "b"})
        self.not_clear({"c": 9}, Meets, {"low": "b", "high": "c"})
        self.not_clear({"a": 16, "c": 16, "b": 17}, Meets, {"low": "b", "high": "c"})
        self.not_clear({"b": 5}, Meets, {"low": "a", "high": "b"}, {"a": 0, "b": 2, "c": 0})
        self.not_clear({"a": 12, "b": 16}, Meets, {"low": "b", "high": "c"})

    def test_out_goes_ahead_of_meets(self):
        self.not_clear({"a": 12, "c": 21}, Out, {"bar": "c"})

    def test_just_clear(self):
        self.flies(THREE, self.HEIGHTS, no_drops(THREE), {"a": 8, "c": 20}, 1)
        self.flies(THREE, self.HEIGHTS, {"a": 3, "b": 5, "c": 5}, {"a": 3}, 1)

    def test_too_far_with_the_first_such_bar(self):
        rig = Rig(["plate 1", bar_line("z"), bar_line("y"), bar_line("x")])
        heights = {"x": 5, "y": 5, "z": 5}
        for goal, turns, told in (
            ({"x": 15, "y": 12, "z": 6}, 3, ("y", 4)),
            ({"x": 15, "y": 12, "z": 0}, 3, ("z", 2)),
            ({"x": 15, "y": 12, "z": 6}, 7, ("x", 3)),
            ({"x": 15, "y": 12, "z": 6}, 9, ("x", 1)),
            ({"z": 4}, 0, ("z", 1)),
        ):
            e = refusal(self, TooFar, timely, rig, heights, no_drops(rig), goal, 1, turns)
            self.assertEqual((e.bar, e.lacks), told)

    def test_too_few(self):
        rig = Rig(["plate 1", bar_line("z"), bar_line("y"), bar_line("x")])
        heights = {"x": 5, "y": 5, "z": 5}
        goal = {"x": 15, "y": 12, "z": 6}
        for hands, turns, lacks in ((1, 10, 8), (1, 17, 1), (1, 12, 6)):
            e = refusal(self, TooFew, timely, rig, heights, no_drops(rig), goal, hands, turns)
            self.assertEqual(e.lacks, lacks)
        self.assertEqual(len(timely(rig, heights, no_drops(rig), goal, 1, 18)), 18)
        self.assertEqual(len(timely(rig, heights, no_drops(rig), goal, 2, 10)), 10)
        goal = {"x": 15, "y": 15, "z": 15}
        e = refusal(self, TooFew, timely, rig, heights, no_drops(rig), goal, 2, 14)
        self.assertEqual(e.lacks, 2)
        self.assertEqual(len(timely(rig, heights, no_drops(rig), goal, 2, 15)), 15)

    def test_no_turns_for_no_way(self):
        self.assertEqual(timely(THREE, self.HEIGHTS, no_drops(THREE), {}, 1, 0), [])
        self.assertEqual(timely(THREE, self.HEIGHTS, no_drops(THREE), dict(self.HEIGHTS), 8, 0), [])


if __name__ == "__main__":
    unittest.main()
