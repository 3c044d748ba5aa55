"""Point 12: heights, drops, which bar is out, which pair meets, what is clear."""

import copy
import unittest

from flyloft.bays import ask_clear, first_meet, first_out
from flyloft.errors import Meets, Out
from flyloft.rigs import Rig
from helper import bar_line, dice_of, refusal

# The bays bear names of bars, and their order is not that of the bars.
RIG = Rig([
    "plate 10",
    bar_line("c", top=30, at=2),
    bar_line("a", top=20, at=0),
    bar_line("b", top=25, at=1),
    bar_line("d", top=40, at=3),
    "bay b a c d",
    "bay a a b d",
    "bay x b c",
])
NONE = {"a": 0, "b": 0, "c": 0, "d": 0}


def heights_of(**changes):
    return {"a": 5, "b": 10, "c": 15, "d": 20, **changes}


def drops_of(**changes):
    return {**NONE, **changes}


class Case(unittest.TestCase):

    def clear(self, heights, drops):
        self.asked(heights, drops, None, None)

    def asked(self, heights, drops, out, meet, rig=RIG):
        kept = copy.deepcopy((heights, drops))
        self.assertEqual(first_out(rig, heights, drops), out)
        self.assertEqual(first_meet(rig, heights, drops), meet)
        if meet is not None:
            self.assertIs(type(first_meet(rig, heights, drops)), tuple)
        if out is not None:
            e = refusal(self, Out, ask_clear, rig, heights, drops)
            self.assertEqual(e.bar, out)
        elif meet is not None:
            e = refusal(self, Meets, ask_clear, rig, heights, drops)
            self.assertEqual((e.low, e.high), meet)
        else:
            self.assertIsNone(ask_clear(rig, heights, drops))
        self.assertEqual((heights, drops), kept)


class Outs(Case):

    def test_all_clear(self):
        self.clear(heights_of(), drops_of())
        self.clear(heights_of(a=0, b=1, c=2, d=3), drops_of())
        self.clear(heights_of(), drops_of(a=5, b=4, c=4, d=4))

    def test_at_the_top_and_one_above(self):
        self.clear(heights_of(d=40), drops_of())
        self.asked(heights_of(d=41), drops_of(), "d", None)
        self.clear(heights_of(a=1, b=2, c=30, d=40), drops_of())
        self.asked(heights_of(c=31, d=40), drops_of(), "c", None)

    def test_at_its_drop_and_one_below(self):
        self.clear(heights_of(a=5), drops_of(a=5))
        self.asked(heights_of(a=5), drops_of(a=6), "a", None)
        self.asked(heights_of(a=4), drops_of(a=5), "a", None)
        self.clear(heights_of(a=0), drops_of(a=0))
        self.asked(heights_of(a=-1), drops_of(a=0), "a", None)

    def test_several_the_first_in_the_order_of_the_rig(self):
        self.asked(heights_of(a=-1, d=41), drops_of(), "a", None)
        self.asked(heights_of(a=-1, c=31, d=41), drops_of(), "c", None)
        self.asked(heights_of(b=26, c=27, d=41), drops_of(), "b", None)
        self.asked({"d": 41, "c": 31, "b": 26, "a": 21}, drops_of(), "c", None)

    def test_a_bar_in_no_bay(self):
        rig = Rig(["plate 1", bar_line("a", top=5), bar_line("b", top=5)])
        self.asked({"a": 3, "b": 3}, {"a": 0, "b": 3}, None, None, rig)
        self.asked({"a": 3, "b": 3}, {"a": 0, "b": 4}, "b", None, rig)
        self.asked({"a": 5, "b": 1}, {"a": 0, "b": 0}, None, None, rig)


class Meetings(Case):

    def test_just_meeting_and_just_not(self):
        self.clear(heights_of(c=19), drops_of())
        self.asked(heights_of(c=20), drops_of(), None, ("c", "d"))
        self.asked(heights_of(c=21), drops_of(), None, ("c", "d"))
        self.clear(heights_of(a=9), drops_of())
        self.asked(heights_of(a=10), drops_of(), None, ("a", "b"))

    def test_drops_of_the_upper_one(self):
        self.clear(heights_of(), drops_of(d=4))
        self.asked(heights_of(), drops_of(d=5), None, ("c", "d"))
        self.asked(heights_of(), drops_of(d=6), None, ("c", "d"))
        self.clear(heights_of(), drops_of(c=4))
        self.asked(heights_of(), drops_of(c=5), None, ("b", "c"))

    def test_drops_of_the_lower_one_are_no_matter(self):
        self.clear(heights_of(), drops_of(a=5))
        self.clear(heights_of(c=16), drops_of(c=5))
        rig = Rig(["plate 1", bar_line("a", at=1), bar_line("b", at=2), "bay x a b"])
        self.asked({"a": 50, "b": 51}, {"a": 50, "b": 0}, None, None, rig)
        self.asked({"a": 50, "b": 51}, {"a": 50, "b": 1}, None, ("a", "b"), rig)

    def test_several_by_bays_in_their_order_from_the_lowest_pair_up(self):
        self.asked(heights_of(a=16, c=15, d=15, b=25), drops_of(), None, ("a", "c"))
        self.asked(heights_of(c=20, b=20), drops_of(), None, ("c", "d"))
        self.asked(heights_of(b=20), drops_of(), None, ("b", "d"))
        self.asked(heights_of(b=16), drops_of(), None, ("b", "c"))
        self.asked(heights_of(a=12, b=11, c=14, d=12), drops_of(), None, ("c", "d"))
        self.asked(heights_of(a=12, b=11), drops_of(), None, ("a", "b"))

    def test_bars_that_are_not_next_to_one_another_are_not_asked(self):
        rig = Rig(["plate 1", bar_line("a", at=1), bar_line("b", at=2), bar_line("c", at=3), "bay x a b c"])
        self.asked({"a": 10, "b": 5, "c": 8}, {"a": 0, "b": 0, "c": 0}, None, ("a", "b"), rig)
        self.asked({"a": 10, "b": 11, "c": 13}, {"a": 0, "b": 0, "c": 2}, None, ("b", "c"), rig)

    def test_bars_of_no_common_bay_may_pass(self):
        rig = Rig(["plate 1", bar_line("a", at=1), bar_line("b", at=2), bar_line("c", at=3), "bay x a c"])
        self.asked({"a": 10, "b": 5, "c": 12}, {"a": 0, "b": 0, "c": 0}, None, None, rig)

    def test_out_and_meeting_at_once(self):
        self.asked(heights_of(a=21), drops_of(), "a", ("a", "c"))
        self.asked(heights_of(c=31), drops_of(), "c", ("c", "d"))
        self.asked(heights_of(d=41, a=10), drops_of(), "d", ("a", "b"))


class Tried(Case):

    def test_many(self):
        dice = dice_of(41)
        seen = {}
        for number in range(3000):
            heights = {bar: dice.randint(-1, 42) for bar in "dbac"}
            if dice.randint(0, 3):
                heights = dict(zip("abcd", sorted(heights.values())))
            drops = {bar: dice.choice([0, 0, 1, 5]) for bar in "cdab"}
            outs = [bar for bar in "cabd" if not drops[bar] <= heights[bar] <= RIG.top(bar)]
            pairs = [("a", "c"), ("c", "d"), ("a", "b"), ("b", "d"), ("b", "c")]
            meets = [(low, high) for low, high in pairs if heights[low] >= heights[high] - drops[high]]
            self.asked(heights, drops, [*outs, None][0], [*meets, None][0])
            seen[bool(outs), bool(meets)] = True
        self.assertEqual(len(seen), 4)


if __name__ == "__main__":
    unittest.main()
