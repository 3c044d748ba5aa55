"""Points 16 and 17: lofts and their deeds, what refuses each, and what a loft tells."""

import copy
import unittest

from flyloft.errors import (
    Braked, Leaning, LoftError, Loose, Meets, NoName, NoPlate, NoRoom, NotThere, Out, Taken, Unheld,
)
from flyloft.lofts import Loft
from flyloft.rigs import Rig
from helper import any_deed, any_rig, bar_line, dice_of, is_clear, refusal

LINES = [
    "plate 10",
    "bar low 20 5 3 1 10 40",
    "bar high 30 12 6 2 0 60",
    "bar side 9 0 0 1 5 5",
    "piece wall 40 6",
    "piece moon 5 1",
    "piece tree 20 3",
    "piece iron 90 0",
    "piece low 1 13",
    "bay x low high",
]


def loft_of(*deeds):
    loft = Loft(Rig(LINES))
    for deed in deeds:
        loft.do(deed)
    return loft


def told(loft):
    """All that a loft tells, as one value, copied whole."""
    bars = loft.rig().bars()
    by_bar = [
        (bar, loft.height(bar), loft.plates(bar), loft.lean(bar), loft.hanging(bar), loft.braked(bar)) for bar in bars
    ]
    return copy.deepcopy((by_bar, loft.heights(), loft.drops(), loft.dock(), loft.state(), loft.log()))


class Case(unittest.TestCase):

    def refuses(self, loft, deed, kind, **fields):
        before = told(loft)
        e = refusal(self, kind, loft.do, deed)
        self.assertEqual(vars(e), fields)
        self.assertEqual(told(loft), before)

    def does(self, loft, deed):
        before = told(loft)
        kept = copy.deepcopy(deed)
        self.assertIsNone(loft.do(deed))
        self.assertEqual(deed, kept)
        self.assertEqual(loft.log(), [*before[-1], deed])


class Told(Case):

    def test_a_new_one(self):
        loft = loft_of()
        self.assertEqual(loft.heights(), {"low": 5, "high": 12, "side": 0})
        self.assertEqual(loft.drops(), {"low": 0, "high": 0, "side": 0})
        self.assertEqual(loft.dock(), ["wall", "moon", "tree", "iron", "low"])
        self.assertEqual(loft.state(), ((5, 12, 0), ((), (), ()), (0, 0, 0), (True, True, True)))
        self.assertEqual(loft.log(), [])
        for bar, height in (("low", 5), ("high", 12), ("side", 0)):
            self.assertEqual(loft.height(bar), height)
            self.assertEqual((loft.plates(bar), loft.lean(bar), loft.hanging(bar)), (0, 0, []))
            self.assertIs(loft.braked(bar), True)

    def test_its_rig(self):
        rig = Rig(LINES)
        kept = Loft(rig).rig()
        self.assertIsInstance(kept, Rig)
        self.assertEqual((kept.plate(), kept.bars(), kept.pieces()), (10, rig.bars(), rig.pieces()))
        for bar in rig.bars():
            for ask in ("top", "at", "room", "pull", "slack", "hold"):
                self.assertEqual(getattr(kept, ask)(bar), getattr(rig, ask)(bar))
        for piece in rig.pieces():
            self.assertEqual((kept.weight(piece), kept.drop(piece)), (rig.weight(piece), rig.drop(piece)))
        self.assertEqual([(bay, kept.bay(bay)) for bay in kept.bays()], [("x", ["low", "high"])])

    def test_behind_many_deeds(self):
        deeds = [
            ("hang", "high", "tree"), ("put", "high"), ("hang", "high", "moon"), ("put", "high"), ("put", "high"),
            ("put", "high"), ("put", "high"), ("loose", "high"), ("turn", [("high", 1)]), ("put", "low"),
            ("loose", "low"), ("turn", [("low", -1), ("high", 1)]),
        ]
        loft = loft_of(*deeds)
        self.assertEqual(loft.heights(), {"low": 4, "high": 14, "side": 0})
        self.assertEqual(loft.drops(), {"low": 0, "high": 3, "side": 0})
        self.assertEqual(loft.hanging("high"), ["moon", "tree"])
        self.assertEqual(loft.dock(), ["wall", "iron", "low"])
        self.assertEqual((loft.plates("high"), loft.lean("high")), (5, 0))
        self.assertEqual((loft.plates("low"), loft.lean("low")), (1, -10))
        self.assertIs(loft.braked("high"), False)
        self.assertIs(loft.braked("side"), True)
        self.assertEqual(loft.state(), ((4, 14, 0), ((), ("moon", "tree"), ()), (1, 5, 0), (False, False, True)))
        self.assertEqual(loft.log(), deeds)

    def test_names_that_are_no_bars(self):
        loft = loft_of()
        for ask in (loft.height, loft.plates, loft.lean, loft.hanging, loft.braked):
            for name in ("", "wall", "x", "lows", "Low"):
                self.assertEqual(refusal(self, NoName, ask, name).name, name)

    def test_kinds(self):
        loft = loft_of(("put", "low"), ("hang", "high", "moon"))
        self.assertEqual([type(each) for each in loft.state()], [tuple] * 4)
        self.assertEqual([type(each) for each in loft.state()[1]], [tuple] * 3)
        self.assertEqual([type(each) for each in loft.state()[3]], [bool] * 3)
        self.assertEqual([type(ask("low")) for ask in (loft.height, loft.plates, loft.lean)], [int] * 3)


class Deeds(Case):

    def test_hang_and_strike(self):
        loft = loft_of()
        self.does(loft, ("hang", "low", "tree"))
        self.assertEqual((loft.hanging("low"), loft.lean("low"), loft.drops()["low"]), (["tree"], 20, 3))
        self.does(loft, ("hang", "low", "moon"))
        self.assertEqual((loft.hanging("low"), loft.lean("low"), loft.drops()["low"]), (["moon", "tree"], 25, 3))
        self.does(loft, ("strike", "low", "tree"))
        self.assertEqual((loft.hanging("low"), loft.lean("low"), loft.drops()["low"]), (["moon"], 5, 1))
        self.does(loft, ("hang", "high", "tree"))
        self.assertEqual((loft.hanging("high"), loft.lean("high")), (["tree"], 40))
        self.assertEqual(loft.dock(), ["wall", "iron", "low"])

    def test_put_and_lift(self):
        loft = loft_of()
        self.does(loft, ("put", "low"))
        self.does(loft, ("put", "low"))
        self.assertEqual((loft.plates("low"), loft.lean("low")), (2, -20))
        self.does(loft, ("lift", "low"))
        self.assertEqual((loft.plates("low"), loft.lean("low"), loft.plates("high")), (1, -10, 0))

    def test_loose_and_brake(self):
        loft = loft_of()
        self.does(loft, ("loose", "low"))
        self.assertEqual(loft.state()[3], (False, True, True))
        self.does(loft, ("brake", "low"))
        self.assertEqual(loft.state()[3], (True, True, True))

    def test_turn(self):
        loft = loft_of(("loose", "low"), ("loose", "high"))
        self.does(loft, ("turn", [("low", 1)]))
        self.does(loft, ("turn", [("high", -1), ("low", -1)]))
        self.assertEqual(loft.heights(), {"low": 5, "high": 11, "side": 0})


class Refused(Case):

    def test_names_of_bars(self):
        for word in ("brake", "loose", "put", "lift"):
            self.refuses(loft_of(), (word, "wall"), NoName, name="wall")
            self.refuses(loft_of(), (word, ""), NoName, name="")
        for word in ("hang", "strike"):
            self.refuses(loft_of(), (word, "wall", "moon"), NoName, name="wall")
            self.refuses(loft_of(), (word, "other", "none"), NoName, name="other")

    def test_names_of_pieces(self):
        for word in ("hang", "strike"):
            self.refuses(loft_of(), (word, "low", "side"), NoName, name="side")
            self.refuses(loft_of(), (word, "low", ""), NoName, name="")
            self.refuses(loft_of(("loose", "low")), (word, "low", "other"), NoName, name="other")

    def test_names_in_a_turn(self):
        self.refuses(loft_of(), ("turn", [("other", 1)]), NoName, name="other")
        self.refuses(loft_of(), ("turn", [("low", 1), ("tree", 1), ("other", 1)]), NoName, name="tree")
        self.refuses(loft_of(("loose", "low")), ("turn", [("low", 1), ("high", 1), ("moon", 1)]), NoName, name="moon")

    def test_brake(self):
        self.refuses(loft_of(), ("brake", "low"), Braked, bar="low")
        self.refuses(loft_of(("loose", "low"), ("brake", "low")), ("brake", "low"), Braked, bar="low")

    def test_loose(self):
        self.refuses(loft_of(("loose", "low")), ("loose", "low"), Loose, bar="low")
        self.refuses(loft_of(("hang", "low", "tree")), ("loose", "low"), Leaning, bar="low", over=10)
        self.refuses(loft_of(("put", "low"), ("put", "low")), ("loose", "low"), Leaning, bar="low", over=10)
        self.refuses(loft_of(("hang", "high", "moon")), ("loose", "high"), Leaning, bar="high", over=10)
        self.does(loft_of(("hang", "low", "tree"), ("put", "low")), ("loose", "low"))
        self.does(loft_of(("put", "low")), ("loose", "low"))

    def test_loose_by_one(self):
        rig = Rig(["plate 10", bar_line("low", slack=10, hold=99), "piece a 11 0", "piece b 10 0", "piece c 9 0"])
        for piece, over in (("a", 1), ("b", 0), ("c", 0)):
            loft = Loft(rig)
            loft.do(("hang", "low", piece))
            if over:
                self.refuses(loft, ("loose", "low"), Leaning, bar="low", over=over)
            else:
                self.does(loft, ("loose", "low"))

    def test_loads_on_a_loose_bar(self):
        loft = loft_of(("hang", "low", "tree"), ("put", "low"), ("put", "low"), ("loose", "low"))
        for deed in (("hang", "low", "moon"), ("hang", "low", "tree"), ("strike", "low", "tree"),
                     ("strike", "low", "moon"), ("put", "low"), ("lift", "low"), ("hang", "low", "iron")):
            self.refuses(loft, deed, Loose, bar="low")
        self.refuses(loft_of(("loose", "side")), ("put", "side"), Loose, bar="side")
        self.refuses(loft_of(("loose", "low")), ("lift", "low"), Loose, bar="low")

    def test_taken(self):
        loft = loft_of(("hang", "high", "moon"))
        self.refuses(loft, ("hang", "high", "moon"), Taken, piece="moon", bar="high")
        self.refuses(loft, ("hang", "low", "moon"), Taken, piece="moon", bar="high")
        self.refuses(loft, ("hang", "side", "moon"), Taken, piece="moon", bar="high")

    def test_taken_goes_ahead_of_what_is_not_held(self):
        loft = loft_of(("hang", "low", "tree"))
        self.refuses(loft, ("hang", "side", "tree"), Taken, piece="tree", bar="low")

    def test_not_there(self):
        loft = loft_of(("hang", "high", "moon"))
        self.refuses(loft, ("strike", "low", "moon"), NotThere, bar="low", piece="moon")
        self.refuses(loft, ("strike", "high", "tree"), NotThere, bar="high", piece="tree")
        self.refuses(loft, ("strike", "side", "iron"), NotThere, bar="side", piece="iron")

    def test_no_room(self):
        self.refuses(loft_of(("put", "low"), ("put", "low"), ("put", "low")), ("put", "low"), NoRoom, bar="low")
        self.refuses(loft_of(), ("put", "side"), NoRoom, bar="side")

    def test_no_plate(self):
        self.refuses(loft_of(), ("lift", "low"), NoPlate, bar="low")
        self.refuses(loft_of(("put", "low"), ("lift", "low")), ("lift", "low"), NoPlate, bar="low")
        self.refuses(loft_of(("put", "low")), ("lift", "side"), NoPlate, bar="side")

    def test_not_held(self):
        self.refuses(loft_of(), ("hang", "low", "iron"), Unheld, bar="low", over=50)
        self.refuses(loft_of(("hang", "low", "tree")), ("hang", "low", "iron"), Unheld, bar="low", over=70)
        full = loft_of(*[("put", "high")] * 6)
        self.does(full, ("lift", "high"))
        tight = Rig(["plate 10", bar_line("low", hold=20), "piece a 21 0", "piece b 20 0"])
        loft = Loft(tight)
        self.refuses(loft, ("hang", "low", "a"), Unheld, bar="low", over=1)
        self.does(loft, ("put", "low"))
        self.does(loft, ("put", "low"))
        self.refuses(loft, ("put", "low"), Unheld, bar="low", over=10)
        self.does(loft, ("hang", "low", "a"))
        self.does(loft, ("lift", "low"))
        self.refuses(loft, ("lift", "low"), Unheld, bar="low", over=1)
        self.does(loft, ("put", "low"))
        self.does(loft, ("put", "low"))
        self.refuses(loft, ("strike", "low", "a"), Unheld, bar="low", over=10)

    def test_hang_that_is_not_clear(self):
        self.refuses(loft_of(), ("hang", "low", "wall"), Out, bar="low")
        self.refuses(loft_of(), ("hang", "side", "moon"), Out, bar="side")
        meeting = Loft(Rig([
            "plate 10", bar_line("b", at=4, hold=99), bar_line("a", at=9, hold=99), "bay x b a",
            "piece four 1 4", "piece five 1 5", "piece nine 1 9", "piece ten 1 10",
        ]))
        self.refuses(meeting, ("hang", "a", "five"), Meets, low="b", high="a")
        self.refuses(meeting, ("hang", "a", "nine"), Meets, low="b", high="a")
        self.refuses(meeting, ("hang", "a", "ten"), Out, bar="a")
        self.refuses(meeting, ("hang", "b", "five"), Out, bar="b")
        self.does(meeting, ("hang", "a", "four"))
        self.refuses(meeting, ("hang", "b", "five"), Out, bar="b")

    def test_not_held_goes_ahead_of_what_is_not_clear(self):
        loft = Loft(Rig(["plate 10", bar_line("a", at=3, hold=5), "piece wall 6 4", "piece moon 5 4"]))
        self.refuses(loft, ("hang", "a", "wall"), Unheld, bar="a", over=1)
        self.refuses(loft, ("hang", "a", "moon"), Out, bar="a")

    def test_turn_of_braked_bars(self):
        loft = loft_of(("loose", "low"))
        self.refuses(loft, ("turn", [("high", 1)]), Braked, bar="high")
        self.refuses(loft, ("turn", [("low", 1), ("side", 1), ("high", 1)]), Braked, bar="side")
        self.refuses(loft, ("turn", [("high", -1), ("side", -1)]), Braked, bar="high")

    def test_turn_that_is_not_clear(self):
        loft = loft_of(("loose", "side"), ("loose", "low"), ("loose", "high"))
        self.refuses(loft, ("turn", [("side", -1)]), Out, bar="side")
        for step in range(6):
            self.does(loft, ("turn", [("low", 1)]))
        self.refuses(loft, ("turn", [("low", 1)]), Meets, low="low", high="high")
        self.refuses(loft, ("turn", [("side", 1), ("high", -1)]), Meets, low="low", high="high")
        self.refuses(loft, ("turn", [("high", -1), ("side", -1)]), Out, bar="side")
        self.does(loft, ("turn", [("low", 1), ("high", 1)]))

    def test_braked_goes_ahead_of_what_is_not_clear(self):
        loft = loft_of(("loose", "side"))
        self.refuses(loft, ("turn", [("side", -1), ("low", 1)]), Braked, bar="low")


class Apart(Case):

    def test_two_lofts_of_one_rig(self):
        rig = Rig(LINES)
        one, other = Loft(rig), Loft(rig)
        before = told(other)
        for deed in (("hang", "high", "tree"), ("put", "low"), ("loose", "side"), ("turn", [("side", 1)])):
            one.do(deed)
        self.assertEqual(told(other), before)
        other.do(("hang", "low", "tree"))
        self.assertEqual(one.hanging("low"), [])
        self.assertEqual(one.hanging("high"), ["tree"])

    def test_a_told_turn_changed_afterwards(self):
        loft = loft_of(("loose", "low"), ("loose", "side"))
        moves = [("low", 1)]
        loft.do(("turn", moves))
        before = told(loft)
        moves.append(("side", 1))
        self.assertEqual(told(loft), before)
        moves.clear()
        self.assertEqual(told(loft), before)

    def test_what_was_told_changed_afterwards(self):
        loft = loft_of(("hang", "high", "tree"), ("loose", "low"), ("turn", [("low", 1)]))
        before = told(loft)
        loft.heights()["low"] = 9
        loft.drops().clear()
        loft.dock().append("tree")
        loft.hanging("high").clear()
        log = loft.log()
        log[2][1].append(("high", 1))
        log.pop()
        self.assertEqual(told(loft), before)

    def test_what_was_told_stays_as_it_was(self):
        loft = loft_of(("hang", "high", "tree"), ("loose", "low"))
        old = (loft.heights(), loft.drops(), loft.dock(), loft.hanging("high"), loft.log(), loft.state())
        kept = copy.deepcopy(old)
        for deed in (("turn", [("low", 1)]), ("strike", "high", "tree"), ("hang", "high", "moon"), ("put", "high")):
            loft.do(deed)
        self.assertEqual(old, kept)


class Model:
    """A loft by the words of the document, over plain dicts, with what is due for a deed."""

    def __init__(self, rig):
        self.rig = rig
        self.heights = {bar: rig.at(bar) for bar in rig.bars()}
        self.on = {bar: [] for bar in rig.bars()}
        self.plates = {bar: 0 for bar in rig.bars()}
        self.braked = {bar: True for bar in rig.bars()}

    def lean(self, bar):
        pull = self.rig.pull(bar) * sum(self.rig.weight(piece) for piece in self.on[bar])
        return pull - self.plates[bar] * self.rig.plate()

    def drops(self):
        return {bar: max([0] + [self.rig.drop(piece) for piece in self.on[bar]]) for bar in self.on}

    def due(self, deed):
        """The class of what is due and the model behind the deed."""
        behind = copy.deepcopy(self)
        bars = [move[0] for move in deed[1]] if deed[0] == "turn" else [deed[1]]
        if any(bar not in self.on for bar in bars) or any(piece not in self.rig.pieces() for piece in deed[2:]):
            return (NoName, self)
        ground = self.due_load(deed, behind) if deed[0] in ("hang", "strike", "put", "lift") else self.due_other(
            deed, bars, behind)
        return (ground, self if ground else behind)

    def due_other(self, deed, bars, behind):
        if deed[0] == "turn":
            for bar, step in deed[1]:
                behind.heights[bar] += step
            return Braked if any(self.braked[bar] for bar in bars) else behind.unclear()
        behind.braked[bars[0]] = deed[0] == "brake"
        if deed[0] == "brake":
            return Braked if self.braked[bars[0]] else None
        if not self.braked[bars[0]]:
            return Loose
        return Leaning if abs(self.lean(bars[0])) > self.rig.slack(bars[0]) else None

    def due_load(self, deed, behind):
        word, bar = deed[:2]
        if not self.braked[bar]:
            return Loose
        if word == "hang":
            if any(deed[2] in pieces for pieces in self.on.values()):
                return Taken
            behind.on[bar].append(deed[2])
        elif word == "strike":
            if deed[2] not in self.on[bar]:
                return NotThere
            behind.on[bar].remove(deed[2])
        elif word == "put":
            if self.plates[bar] == self.rig.room(bar):
                return NoRoom
            behind.plates[bar] += 1
        else:
            if self.plates[bar] == 0:
                return NoPlate
            behind.plates[bar] -= 1
        if abs(behind.lean(bar)) > self.rig.hold(bar):
            return Unheld
        return behind.unclear() if word == "hang" else None

    def unclear(self):
        drops = self.drops()
        if is_clear(self.rig, self.heights, drops):
            return None
        outs = [bar for bar in self.on if not drops[bar] <= self.heights[bar] <= self.rig.top(bar)]
        return Out if outs else Meets

    def state(self):
        in_order = self.rig.pieces().index
        return (
            tuple(self.heights.values()),
            tuple(tuple(sorted(pieces, key=in_order)) for pieces in self.on.values()),
            tuple(self.plates.values()),
            tuple(self.braked.values()),
        )


class Tried(Case):

    def test_many_deeds(self):
        dice = dice_of(71)
        seen = {}
        for number in range(150):
            loft = Loft(any_rig(dice))
            model = Model(loft.rig())
            done = []
            for k in range(100):
                deed = any_deed(dice, loft)
                ground, model = model.due(deed)
                seen[deed[0], ground] = seen.get((deed[0], ground), 0) + 1
                if ground is None:
                    self.assertIsNone(loft.do(deed))
                    done.append(copy.deepcopy(deed))
                else:
                    self.assertIs(type(refusal(self, ground, loft.do, deed)), ground)
                self.assertEqual(loft.state(), model.state())
                self.assertEqual(loft.drops(), model.drops())
                self.keeps_the_promise(loft)
            self.assertEqual(loft.log(), done)
        self.saw_each_ground(seen)

    def keeps_the_promise(self, loft):
        rig = loft.rig()
        self.assertTrue(is_clear(rig, loft.heights(), loft.drops()))
        for bar in rig.bars():
            bound = rig.hold(bar) if loft.braked(bar) else rig.slack(bar)
            self.assertLessEqual(abs(loft.lean(bar)), bound)

    def saw_each_ground(self, seen):
        for word, grounds in {
            "brake": [Braked], "loose": [Loose, Leaning], "hang": [Loose, Taken, Unheld, Out, Meets],
            "strike": [Loose, NotThere, Unheld], "put": [Loose, NoRoom, Unheld], "lift": [Loose, NoPlate, Unheld],
            "turn": [Braked, Out, Meets],
        }.items():
            for ground in (None, NoName, *grounds):
                self.assertGreater(seen.get((word, ground), 0), 0, (word, ground))
        self.assertTrue(all(ground is None or issubclass(ground, LoftError) for word, ground in seen))


if __name__ == "__main__":
    unittest.main()
