"""Point 6: load, drop, pull and lean; in balance, held."""

import itertools
import unittest

from flyloft.counts import is_balanced, is_held
from flyloft.leans import drop_of, lean_of, load_of, pull_of
from flyloft.rigs import Rig
from helper import LETTERS, bar_line, one_bar

TRILLION = 10 ** 12

RIG = Rig([
    "plate 10",
    "bar one 20 1 5 1 10 100",
    "bar two 30 4 6 2 0 200",
    "piece tree 50 3",
    "piece moon 7 0",
    "piece wall 120 60",
])


def great_rig():
    pieces = [f"piece {LETTERS[k]} {TRILLION - k} {5 * k}" for k in range(12)]
    bars = [bar_line("one", pull=1, hold=10 ** 15), bar_line("two", pull=2, hold=10 ** 15)]
    return Rig([f"plate {TRILLION}", *bars, *pieces])


class Loads(unittest.TestCase):

    def whole(self, told, number):
        self.assertIs(type(told), int)
        self.assertEqual(told, number)

    def test_load(self):
        self.whole(load_of(RIG, []), 0)
        self.whole(load_of(RIG, ["moon"]), 7)
        self.whole(load_of(RIG, ["tree"]), 50)
        for pieces in itertools.permutations(["tree", "moon", "wall"]):
            self.whole(load_of(RIG, list(pieces)), 177)

    def test_drop(self):
        self.whole(drop_of(RIG, []), 0)
        self.whole(drop_of(RIG, ["moon"]), 0)
        self.whole(drop_of(RIG, ["tree"]), 3)
        self.whole(drop_of(RIG, ["moon", "tree"]), 3)
        for pieces in itertools.permutations(["tree", "moon", "wall"]):
            self.whole(drop_of(RIG, list(pieces)), 60)

    def test_pull_of_one_and_of_two(self):
        self.whole(pull_of(RIG, "one", []), 0)
        self.whole(pull_of(RIG, "two", []), 0)
        self.whole(pull_of(RIG, "one", ["tree"]), 50)
        self.whole(pull_of(RIG, "two", ["tree"]), 100)
        for pieces in itertools.permutations(["tree", "moon", "wall"]):
            self.whole(pull_of(RIG, "one", list(pieces)), 177)
            self.whole(pull_of(RIG, "two", list(pieces)), 354)

    def test_lean_above_nought_nought_and_below(self):
        self.whole(lean_of(RIG, "one", [], 0), 0)
        self.whole(lean_of(RIG, "one", ["tree"], 0), 50)
        self.whole(lean_of(RIG, "one", ["tree"], 4), 10)
        self.whole(lean_of(RIG, "one", ["tree"], 5), 0)
        self.whole(lean_of(RIG, "one", ["tree"], 6), -10)
        self.whole(lean_of(RIG, "two", ["tree"], 6), 40)
        self.whole(lean_of(RIG, "two", ["tree"], 10), 0)
        self.whole(lean_of(RIG, "two", ["moon", "tree"], 12), -6)

    def test_lean_with_plates_beyond_the_room(self):
        self.whole(lean_of(RIG, "one", [], 1), -10)
        self.whole(lean_of(RIG, "one", [], 1000), -10000)
        self.whole(lean_of(RIG, "two", ["wall"], 1000), 240 - 10000)

    def test_all_twelve_and_great_weights(self):
        rig = great_rig()
        pieces = list(LETTERS[:12])
        load = 12 * TRILLION - 66
        for told in (pieces, pieces[::-1], pieces[5:] + pieces[:5]):
            self.whole(load_of(rig, told), load)
            self.whole(drop_of(rig, told), 55)
            self.whole(pull_of(rig, "one", told), load)
            self.whole(pull_of(rig, "two", told), 2 * load)
            self.whole(lean_of(rig, "one", told, 12), -66)
            self.whole(lean_of(rig, "two", told, 0), 2 * load)
            self.whole(lean_of(rig, "two", told, 1000), 2 * load - 1000 * TRILLION)
        self.whole(load_of(rig, ["a"]), TRILLION)

    def test_lists_stay_as_they_were(self):
        pieces = ["wall", "moon", "tree"]
        load_of(RIG, pieces)
        drop_of(RIG, pieces)
        pull_of(RIG, "two", pieces)
        lean_of(RIG, "two", pieces, 3)
        is_balanced(RIG, "two", pieces, 3)
        is_held(RIG, "two", pieces, 3)
        self.assertEqual(pieces, ["wall", "moon", "tree"])
        self.assertEqual(RIG.pieces(), ["tree", "moon", "wall"])


class Balance(unittest.TestCase):

    def about(self, ask, **bound):
        """The lean is 7 with one piece and no plate, -7 with no piece and one plate."""
        rig = one_bar(7, [7], **bound)
        return (ask(rig, "low", ["a"], 0), ask(rig, "low", [], 1))

    def test_slack_just_as_great_one_more_and_one_less(self):
        for slack, told in ((7, True), (8, True), (6, False), (0, False), (10 ** 15, True)):
            with self.subTest(slack=slack):
                answers = self.about(is_balanced, slack=slack)
                self.assertEqual(answers, (told, told))
                self.assertIs(type(answers[0]), bool)

    def test_hold_just_as_great_one_more_and_one_less(self):
        for hold, told in ((7, True), (8, True), (6, False), (0, False), (10 ** 15, True)):
            with self.subTest(hold=hold):
                answers = self.about(is_held, hold=hold)
                self.assertEqual(answers, (told, told))
                self.assertIs(type(answers[0]), bool)

    def test_slack_and_hold_of_nought(self):
        for ask, bound in ((is_balanced, {"slack": 0}), (is_held, {"hold": 0})):
            rig = one_bar(5, [10, 4], **bound)
            self.assertIs(ask(rig, "low", [], 0), True)
            self.assertIs(ask(rig, "low", ["a"], 2), True)
            self.assertIs(ask(rig, "low", ["a"], 1), False)
            self.assertIs(ask(rig, "low", ["a"], 3), False)
            self.assertIs(ask(rig, "low", ["b"], 0), False)
            self.assertIs(ask(rig, "low", ["b"], 1), False)

    def test_balance_asks_the_slack_and_held_the_hold(self):
        rig = one_bar(1, [20], slack=3, hold=9)
        self.assertEqual([n for n in range(41) if is_balanced(rig, "low", ["a"], n)], list(range(17, 24)))
        self.assertEqual([n for n in range(41) if is_held(rig, "low", ["a"], n)], list(range(11, 30)))

    def test_a_pull_of_two(self):
        rig = one_bar(10, [15], pull=2, slack=0, hold=10)
        self.assertEqual([n for n in range(9) if is_balanced(rig, "low", ["a"], n)], [3])
        self.assertEqual([n for n in range(9) if is_held(rig, "low", ["a"], n)], [2, 3, 4])

    def test_great_leans(self):
        rig = one_bar(TRILLION, [TRILLION] * 12, pull=2, slack=24 * TRILLION - 1, hold=24 * TRILLION)
        pieces = rig.pieces()
        self.assertIs(is_balanced(rig, "low", pieces, 0), False)
        self.assertIs(is_held(rig, "low", pieces, 0), True)
        self.assertIs(is_balanced(rig, "low", pieces, 1), True)
        self.assertIs(is_balanced(rig, "low", pieces, 47), True)
        self.assertIs(is_held(rig, "low", pieces, 48), True)
        self.assertIs(is_held(rig, "low", pieces, 49), False)


if __name__ == "__main__":
    unittest.main()
