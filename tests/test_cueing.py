"""Point 20: a loft at rest, the deeds of a cue, and what refuses them."""

import copy
import unittest

from flyloft.cueing import at_rest, deeds_of
from flyloft.errors import LoftError, Meets, Out, Taken, TooFar, TooFew, TooHeavy, Unbalanced
from flyloft.lofts import Loft
from flyloft.rigs import Rig
from helper import (
    any_cue, any_flight, any_load, any_rig, balancing, bar_line, dice_of, is_safe, refusal, shadow,
)

LINES = [
    "plate 10",
    "bar low 20 6 4 1 5 40",
    "bar high 30 14 6 2 0 60",
    "bar side 9 3 0 1 5 5",
    "piece wall 40 6",
    "piece moon 5 1",
    "piece tree 20 3",
    "piece iron 100 0",
    "piece rope 4 9",
    "bay x low high",
]


def loft_of(*deeds):
    loft = Loft(Rig(LINES))
    for deed in deeds:
        loft.do(deed)
    return loft


def load(*rows):
    return ("load", tuple((row[0], tuple(row[1:])) for row in rows))


def fly(hands, turns, **goal):
    return ("fly", hands, turns, tuple(goal.items()))


class Case(unittest.TestCase):

    def refuses(self, loft, cue, kind, **fields):
        before = (loft.state(), loft.log())
        e = refusal(self, kind, deeds_of, loft, cue)
        self.assertEqual(vars(e), fields)
        self.assertEqual((loft.state(), loft.log()), before)

    def deeds(self, loft, cue):
        """The deeds, done by another loft, which is told behind them."""
        before, kept = (loft.state(), loft.log()), copy.deepcopy(cue)
        deeds = deeds_of(loft, cue)
        self.assertIs(type(deeds), list)
        self.assertEqual((loft.state(), loft.log()), before)
        self.assertEqual(cue, kept)
        other = shadow(loft)
        for deed in deeds:
            other.do(deed)
            self.assertTrue(is_safe(other))
        self.assertTrue(at_rest(other))
        return deeds, other

    def loads(self, loft, cue):
        deeds, other = self.deeds(loft, cue)
        rig = loft.rig()
        told = {bar: pieces for bar, pieces in cue[1]}
        self.assertEqual(other.heights(), loft.heights())
        for bar in rig.bars():
            on = [deed for deed in deeds if deed[1] == bar]
            if bar not in told:
                self.assertEqual(on, [])
                continue
            self.assertEqual(sorted(other.hanging(bar)), sorted(told[bar]))
            fit = balancing(rig, bar, told[bar])
            nearest = min(fit, key=lambda count: abs(count - loft.plates(bar)))
            self.assertEqual(other.plates(bar), nearest)
            moved = [("hang", bar, piece) for piece in told[bar] if piece not in loft.hanging(bar)]
            moved += [("strike", bar, piece) for piece in loft.hanging(bar) if piece not in told[bar]]
            moved += [("put", bar)] * (nearest - loft.plates(bar)) + [("lift", bar)] * (loft.plates(bar) - nearest)
            self.assertEqual(sorted(on), sorted(moved))
        self.assertEqual({deed[0] for deed in deeds} - {"hang", "strike", "put", "lift"}, set())
        return other

    def flies(self, loft, cue):
        deeds, other = self.deeds(loft, cue)
        goal, heights = dict(cue[3]), loft.heights()
        self.assertEqual(other.heights(), {**heights, **goal})
        self.assertEqual(other.state()[1:], loft.state()[1:])
        going = [bar for bar in goal if goal[bar] != heights[bar]]
        for word in ("loose", "brake"):
            self.assertEqual(sorted(deed[1] for deed in deeds if deed[0] == word), sorted(going))
        turns = [deed[1] for deed in deeds if deed[0] == "turn"]
        self.assertEqual(len(deeds), 2 * len(going) + len(turns))
        ways = [abs(goal[bar] - heights[bar]) for bar in going]
        self.assertEqual(len(turns), max([0, *ways, -(-sum(ways) // cue[1])]))
        self.assertLessEqual(len(turns), cue[2])
        for moves in turns:
            self.assertTrue(1 <= len(moves) <= cue[1])
        self.assertEqual(sum(len(moves) for moves in turns), sum(ways))
        return other


class AtRest(Case):

    def test_a_new_loft(self):
        self.assertIs(at_rest(loft_of()), True)

    def test_a_bar_loosed(self):
        for bar in ("low", "high", "side"):
            self.assertIs(at_rest(loft_of(("loose", bar))), False)
            self.assertIs(at_rest(loft_of(("loose", bar), ("brake", bar))), True)

    def test_out_of_balance_by_a_piece(self):
        self.assertIs(at_rest(loft_of(("hang", "low", "tree"))), False)
        self.assertIs(at_rest(loft_of(("hang", "low", "moon"))), True)
        self.assertIs(at_rest(loft_of(("hang", "low", "moon"), ("hang", "low", "tree"))), False)
        self.assertIs(at_rest(loft_of(("hang", "high", "moon"))), False)

    def test_out_of_balance_by_a_plate(self):
        self.assertIs(at_rest(loft_of(("put", "low"))), False)
        balanced = [("hang", "low", "tree"), ("put", "low"), ("put", "low")]
        self.assertIs(at_rest(loft_of(*balanced)), True)
        self.assertIs(at_rest(loft_of(*balanced, ("put", "low"))), False)
        self.assertIs(at_rest(loft_of(*balanced, ("lift", "low"))), False)
        self.assertIs(at_rest(loft_of(*balanced, ("strike", "low", "tree"))), False)

    def test_moved_but_at_rest(self):
        self.assertIs(at_rest(loft_of(("loose", "low"), ("turn", [("low", 1)]), ("brake", "low"))), True)


class Loads(Case):

    def test_some(self):
        other = self.loads(loft_of(), load(["low", "tree"]))
        self.assertEqual((other.plates("low"), other.hanging("low")), (2, ["tree"]))
        other = self.loads(other, load(["low", "moon", "tree"]))
        self.assertEqual(other.plates("low"), 2)
        other = self.loads(other, load(["low"]))
        self.assertEqual((other.plates("low"), other.hanging("low")), (0, []))

    def test_nothing_to_do(self):
        self.assertEqual(deeds_of(loft_of(), load(["low"], ["high"])), [])
        loft = loft_of(("hang", "low", "moon"), ("hang", "low", "tree"), ("put", "low"), ("put", "low"))
        self.assertEqual(deeds_of(loft, load(["low", "tree", "moon"])), [])

    def test_the_nearest_count(self):
        rig = Rig(["plate 10", bar_line("low", slack=25, hold=99), "piece a 60 0", "piece b 10 0"])
        other = self.loads(Loft(rig), load(["low", "a"]))
        self.assertEqual(other.plates("low"), 4)
        other = self.loads(other, load(["low", "a", "b"]))
        self.assertEqual(other.plates("low"), 5)
        other = self.loads(other, load(["low", "a"]))
        self.assertEqual(other.plates("low"), 5)
        other = self.loads(other, load(["low", "b"]))
        self.assertEqual(other.plates("low"), 3)

    def test_several_rows(self):
        other = self.loads(loft_of(), load(["high", "tree"], ["low", "moon"], ["side"]))
        self.assertEqual(other.state()[1:3], ((("moon",), ("tree",), ()), (0, 4, 0)))

    def test_a_piece_from_the_dock_that_was_struck_before(self):
        first = self.loads(loft_of(), load(["low", "tree"]))
        second = self.loads(first, load(["low"]))
        self.loads(second, load(["high", "tree"]))

    def test_many(self):
        dice = dice_of(101)
        done = moved = 0
        for number in range(400):
            loft = Loft(any_rig(dice, pieces=12, slack=(0, 20)))
            for k in range(8):
                cue = any_load(dice, loft) if dice.randint(0, 3) else any_flight(dice, loft)
                try:
                    deeds = deeds_of(loft, cue)
                except LoftError as e:
                    self.assertEqual((type(e), vars(e)), first_due(loft, cue))
                    continue
                self.assertEqual(first_due(loft, cue), (None, {}))
                loft = self.loads(loft, cue) if cue[0] == "load" else self.flies(loft, cue)
                done += 1
                moved += len(deeds) > 3
        self.assertGreater(done, 500)
        self.assertGreater(moved, 300)


def first_due(loft, cue):
    """The class and the fields of the refusal that is due, by the words of the document, or None and no fields."""
    if cue[0] == "fly":
        return flight_due(loft, cue)
    drops = loft.drops()
    for bar, pieces in cue[1]:
        due = row_due(loft, bar, pieces)
        if due:
            return due
        drops[bar] = max([0] + [loft.rig().drop(piece) for piece in pieces])
    return clear_due(loft.rig(), loft.heights(), drops)


def row_due(loft, bar, pieces):
    rig = loft.rig()
    for piece in pieces:
        others = [other for other in rig.bars() if other != bar and piece in loft.hanging(other)]
        if others:
            return (Taken, {"piece": piece, "bar": others[0]})
    fit = balancing(rig, bar, pieces)
    if not fit:
        return unbalanced_due(rig, bar, rig.pull(bar) * sum(rig.weight(piece) for piece in pieces))
    hanging = loft.hanging(bar)
    new, old = [p for p in pieces if p not in hanging], [p for p in hanging if p not in pieces]
    for piece in new + old:
        if rig.pull(bar) * rig.weight(piece) > rig.hold(bar):
            return (TooHeavy, {"bar": bar, "what": piece})
    if loft.plates(bar) not in fit and rig.plate() > rig.hold(bar):
        return (TooHeavy, {"bar": bar, "what": None})
    return None


def unbalanced_due(rig, bar, pull):
    lean_by_count = [abs(pull - count * rig.plate()) for count in range(pull // rig.plate() + 2)]
    if min(lean_by_count) > rig.slack(bar):
        return (Unbalanced, {"bar": bar, "why": "plate", "lacks": min(lean_by_count) - rig.slack(bar)})
    least = [lean <= rig.slack(bar) for lean in lean_by_count].index(True)
    return (Unbalanced, {"bar": bar, "why": "room", "lacks": least - rig.room(bar)})


def clear_due(rig, heights, drops):
    for bar in rig.bars():
        if heights[bar] > rig.top(bar) or heights[bar] < drops[bar]:
            return (Out, {"bar": bar})
    for bay in rig.bays():
        bars = rig.bay(bay)
        for low, high in zip(bars, bars[1:]):
            if heights[high] - drops[high] <= heights[low]:
                return (Meets, {"low": low, "high": high})
    return (None, {})


def flight_due(loft, cue):
    goal, heights = dict(cue[3]), loft.heights()
    due = clear_due(loft.rig(), {**heights, **goal}, loft.drops())
    if due[0]:
        return due
    ways = {bar: abs(goal[bar] - heights[bar]) for bar in goal}
    for bar in loft.rig().bars():
        if ways.get(bar, 0) > cue[2]:
            return (TooFar, {"bar": bar, "lacks": ways[bar] - cue[2]})
    lacks = sum(ways.values()) - cue[1] * cue[2]
    return (TooFew, {"lacks": lacks}) if lacks > 0 else (None, {})


class LoadsRefused(Case):

    def test_taken(self):
        loft = loft_of(("hang", "low", "moon"), ("hang", "low", "tree"), ("put", "low"), ("put", "low"))
        self.refuses(loft, load(["high", "tree"]), Taken, piece="tree", bar="low")
        self.refuses(loft, load(["high", "wall", "tree", "moon"]), Taken, piece="tree", bar="low")
        self.refuses(loft, load(["high", "moon", "tree"]), Taken, piece="moon", bar="low")

    def test_taken_whatever_the_cue_does_there(self):
        loft = loft_of(("hang", "low", "tree"), ("put", "low"), ("put", "low"))
        self.refuses(loft, load(["low"], ["high", "tree"]), Taken, piece="tree", bar="low")
        self.refuses(loft, load(["high", "tree"], ["low"]), Taken, piece="tree", bar="low")

    def test_unbalanced(self):
        self.refuses(loft_of(), load(["high", "rope"]), Unbalanced, bar="high", why="plate", lacks=2)
        self.refuses(loft_of(), load(["low", "iron"]), Unbalanced, bar="low", why="room", lacks=6)
        self.refuses(loft_of(), load(["side", "tree"]), Unbalanced, bar="side", why="room", lacks=2)

    def test_too_heavy(self):
        rig = Rig(["plate 10", bar_line("low", hold=20), "piece a 30 0", "piece b 20 0", "piece c 50 0"])
        self.refuses(Loft(rig), load(["low", "a"]), TooHeavy, bar="low", what="a")
        self.refuses(Loft(rig), load(["low", "b", "c", "a"]), TooHeavy, bar="low", what="c")
        self.loads(Loft(rig), load(["low", "b"]))
        loft = Loft(rig)
        for deed in (("put", "low"), ("put", "low"), ("hang", "low", "a"), ("put", "low")):
            loft.do(deed)
        self.assertTrue(at_rest(loft))
        self.refuses(loft, load(["low"]), TooHeavy, bar="low", what="a")
        self.refuses(loft, load(["low", "b", "c"]), TooHeavy, bar="low", what="c")
        self.loads(loft, load(["low", "b", "a"]))

    def test_too_heavy_a_plate(self):
        rig = Rig(["plate 10", bar_line("low", slack=4, hold=9), "piece a 6 0", "piece b 4 0"])
        self.refuses(Loft(rig), load(["low", "a"]), TooHeavy, bar="low", what=None)
        self.loads(Loft(rig), load(["low", "b"]))

    def test_not_clear_by_the_drops_that_would_be_then(self):
        rig = Rig(["plate 10", bar_line("b", at=4, slack=99, hold=99), bar_line("a", at=9, slack=99, hold=99),
                   "bay x b a", "piece four 1 4", "piece five 1 5", "piece ten 1 10"])
        self.refuses(Loft(rig), load(["a", "five"]), Meets, low="b", high="a")
        self.refuses(Loft(rig), load(["a", "ten"]), Out, bar="a")
        self.refuses(Loft(rig), load(["b", "five"]), Out, bar="b")
        self.refuses(Loft(rig), load(["a", "ten"], ["b", "five"]), Out, bar="b")
        other = self.loads(Loft(rig), load(["a", "four"]))
        self.loads(other, load(["a"]))

    def test_row_by_row(self):
        loft = loft_of(("hang", "low", "tree"), ("put", "low"), ("put", "low"))
        self.refuses(loft, load(["high", "rope"], ["side", "tree"]), Unbalanced, bar="high", why="plate", lacks=2)
        self.refuses(loft, load(["side", "tree"], ["high", "rope"]), Taken, piece="tree", bar="low")
        self.refuses(loft, load(["side", "moon"], ["high", "rope"]), Unbalanced, bar="high", why="plate", lacks=2)

    def test_several_in_one_row(self):
        loft = loft_of(("hang", "low", "tree"), ("put", "low"), ("put", "low"))
        self.refuses(loft, load(["side", "iron", "tree"]), Taken, piece="tree", bar="low")
        heavy = Rig(["plate 10", bar_line("a", at=3, hold=20, room=2), "piece wall 30 9", "piece rope 20 9"])
        self.refuses(Loft(heavy), load(["a", "wall"]), Unbalanced, bar="a", why="room", lacks=1)
        heavy = Rig(["plate 10", bar_line("a", at=3, hold=20), "piece wall 30 9", "piece rope 20 9"])
        self.refuses(Loft(heavy), load(["a", "wall"]), TooHeavy, bar="a", what="wall")
        self.refuses(Loft(heavy), load(["a", "rope"]), Out, bar="a")

    def test_what_is_not_clear_comes_behind_all_rows(self):
        self.refuses(loft_of(), load(["side", "rope"]), Out, bar="side")
        self.refuses(loft_of(), load(["side", "rope"], ["low", "iron"]), Unbalanced, bar="low", why="room", lacks=6)


class Flights(Case):

    def test_one_bar(self):
        self.assertEqual(
            deeds_of(loft_of(), fly(1, 9, low=8)),
            [("loose", "low"), ("turn", [("low", 1)]), ("turn", [("low", 1)]), ("brake", "low")],
        )
        self.flies(loft_of(), fly(8, 2, low=8))

    def test_no_way_to_go(self):
        self.assertEqual(deeds_of(loft_of(), fly(1, 0, low=6)), [])
        self.assertEqual(deeds_of(loft_of(), fly(3, 500, low=6, high=14, side=3)), [])
        self.assertEqual([deed[1] for deed in deeds_of(loft_of(), fly(3, 500, low=6, high=15))],
                         ["high", [("high", 1)], "high"])

    def test_several_bars(self):
        for hands in (1, 2, 3, 8):
            self.flies(loft_of(), fly(hands, 500, low=19, high=30, side=0))
            self.flies(loft_of(), fly(hands, 500, high=2, low=1))

    def test_a_loft_that_bears_pieces(self):
        loft = loft_of(("put", "high"), ("put", "high"), ("hang", "high", "tree"), ("put", "high"), ("put", "high"))
        self.assertTrue(at_rest(loft))
        self.flies(loft, fly(2, 500, high=10))
        self.refuses(loft, fly(2, 500, high=9), Meets, low="low", high="high")
        self.refuses(loft, fly(2, 500, high=2, low=1), Out, bar="high")
        self.flies(loft, fly(1, 500, high=4, low=0))

    def test_refused(self):
        self.refuses(loft_of(), fly(8, 500, low=21), Out, bar="low")
        self.refuses(loft_of(), fly(8, 0, low=21, side=60), Out, bar="low")
        self.refuses(loft_of(), fly(8, 500, low=14), Meets, low="low", high="high")
        self.refuses(loft_of(), fly(8, 0, high=5), Meets, low="low", high="high")
        self.refuses(loft_of(), fly(8, 4, side=0, high=20, low=11), TooFar, bar="low", lacks=1)
        self.refuses(loft_of(), fly(8, 5, side=0, high=20, low=11), TooFar, bar="high", lacks=1)
        self.refuses(loft_of(), fly(2, 6, side=0, high=20, low=11), TooFew, lacks=2)
        self.flies(loft_of(), fly(2, 7, side=0, high=20, low=11))
        self.flies(loft_of(), fly(3, 6, side=0, high=20, low=11))

    def test_told_lists_are_the_askers_own(self):
        loft = loft_of()
        first = deeds_of(loft, fly(1, 9, low=8))
        kept = copy.deepcopy(first)
        first[1][1].clear()
        first.clear()
        self.assertEqual(deeds_of(loft, fly(1, 9, low=8)), kept)

    def test_many(self):
        dice = dice_of(102)
        grounds = {}
        for number in range(400):
            loft = Loft(any_rig(dice, pieces=12, slack=(0, 20)))
            for k in range(6):
                cue = any_cue(dice, loft)
                due, fields = first_due(loft, cue)
                grounds[cue[0], due] = True
                if due:
                    self.refuses(loft, cue, due, **fields)
                else:
                    loft = self.flies(loft, cue) if cue[0] == "fly" else self.loads(loft, cue)
        for due in (None, Out, Meets, TooFar, TooFew):
            self.assertIn(("fly", due), grounds)
        for due in (None, Taken, Unbalanced, TooHeavy, Out, Meets):
            self.assertIn(("load", due), grounds)


if __name__ == "__main__":
    unittest.main()
