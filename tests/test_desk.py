"""Point 23: a desk, its rows and answers, and what refuses a row."""

import unittest

from flyloft.books import cue_line
from flyloft.desk import Desk
from flyloft.errors import (
    LoftError, Meets, NoCue, NoLoft, NoMore, NoName, NoRig, NoRow, Out, Taken, TooFar, TooFew, TooHeavy, Unbalanced,
)
from flyloft.lofts import Loft
from flyloft.rigs import Rig
from flyloft.tallies import tally
from helper import any_cue, any_rig, dice_of, refusal

LINES = (
    "plate 10; bar low 20 1 9 1 5 40; bar high 30 14 9 2 0 60; piece wall 40 6; piece tree 20 3; piece moon 5 1; "
    "piece iron 400 0; piece lead 50 0; piece wad 3 0; bay x low high"
)
ASKING = ("go", "back", "dock", "done", "braked", "height low", "plates low", "lean low", "hangs low")
NO_ROWS = (
    "", " ", "  ", "Go", "GO", "go ", " go", "go on", "go  ", "goes", "back ", " back", "back 1", "dock ", " dock",
    "dock low", "done ", "done 1", " done", "braked ", "braked low", " braked", "height", "plates", "lean", "hangs",
    "height  low", "height low ", "height low high", "plates  low", "plates low ", "plates low high", "lean  low",
    "lean low ", "lean low high", "hangs  low", "hangs low ", "hangs low high", " height low", "Height low", "rig",
    "cue", "rigs plate 10", " rig plate 10", "cues load low", " cue load low", "RIG plate 10", "Cue load low", "none",
    "ok", "hanging low", "heights", "log", "state", "fly 1 5 low 3", "load low", "rig;", "cue;", "height;low", "low",
    "top low", "height\tlow", "go\n", "height  ", "lean   ",
)
NO_TEXTS = (None, 5, 0, True, False, [], ["go"], ("go",), {}, {"go": 1}, 10 ** 59)


def desk_of(*rows):
    desk = Desk()
    for row in ("rig " + LINES, *rows):
        desk.say(row)
    return desk


def told(desk):
    """All that a desk tells without a change; "none" where a rig is not told yet."""
    asked = ["dock", "done", "braked"]
    asked += [f"{word} {bar}" for word in ("height", "plates", "lean", "hangs") for bar in ("low", "high")]
    try:
        return [desk.say(row) for row in asked]
    except NoLoft:
        return "none"


class Case(unittest.TestCase):

    def refuses(self, desk, said, kind, **fields):
        before = told(desk)
        e = refusal(self, kind, desk.say, said)
        self.assertEqual(vars(e), fields)
        self.assertEqual(told(desk), before)

    def says(self, desk, row, answer):
        given = desk.say(row)
        self.assertIs(type(given), str)
        self.assertEqual(given, answer)


class Answers(Case):

    def test_a_new_rig(self):
        desk = Desk()
        self.says(desk, "rig " + LINES, "ok")
        self.says(desk, "dock", "wall tree moon iron lead wad")
        self.says(desk, "done", "0")
        self.says(desk, "braked", "low high")
        for bar, height in (("low", "1"), ("high", "14")):
            self.says(desk, "height " + bar, height)
            self.says(desk, "plates " + bar, "0")
            self.says(desk, "lean " + bar, "0")
            self.says(desk, "hangs " + bar, "none")

    def test_the_least_rig(self):
        desk = Desk()
        self.says(desk, "rig plate 1; bar a 1 0 0 1 0 0", "ok")
        self.says(desk, "dock", "none")
        self.says(desk, "braked", "a")
        self.says(desk, "hangs a", "none")
        self.says(desk, "height a", "0")

    def test_a_show(self):
        desk = desk_of()
        self.says(desk, "cue load high moon tree", "ok")
        self.says(desk, "cue fly 2 20 low 7 high 11", "ok")
        self.says(desk, "cue load low wall / high", "ok")
        self.says(desk, "done", "0")
        self.says(desk, "go", "0 5")
        self.says(desk, "hangs high", "tree moon")
        self.says(desk, "dock", "wall iron lead wad")
        self.says(desk, "plates high", "5")
        self.says(desk, "lean high", "0")
        self.says(desk, "done", "1")
        self.says(desk, "go", "6 0")
        self.says(desk, "height low", "7")
        self.says(desk, "height high", "11")
        self.says(desk, "braked", "low high")
        self.says(desk, "go", "0 9")
        self.says(desk, "hangs low", "wall")
        self.says(desk, "done", "3")
        self.says(desk, "back", "0 9")
        self.says(desk, "back", "6 0")
        self.says(desk, "height low", "1")
        self.says(desk, "back", "0 5")
        self.says(desk, "done", "0")
        self.says(desk, "dock", "wall tree moon iron lead wad")

    def test_leans_of_either_sign(self):
        desk = Desk()
        desk.say("rig plate 10; bar low 20 9 9 1 5 40; piece moon 5 0; piece tree 20 0; piece wad 3 0")
        for line, moved, plates, lean in (
            ("load low moon", "0 0", "0", "5"), ("load low tree moon wad", "0 3", "3", "-2"),
            ("load low wad tree", "0 1", "2", "3"), ("load low tree", "0 0", "2", "0"), ("load low", "0 2", "0", "0"),
        ):
            self.says(desk, "cue " + line, "ok")
            self.says(desk, "go", moved)
            self.says(desk, "plates low", plates)
            self.says(desk, "lean low", lean)

    def test_a_flight_with_no_way_to_go(self):
        desk = desk_of("cue fly 1 0 low 1")
        self.says(desk, "go", "0 0")
        self.says(desk, "done", "1")
        self.says(desk, "back", "0 0")

    def test_cues_told_when_others_are_done(self):
        desk = desk_of("cue load high tree", "go")
        self.says(desk, "cue load high", "ok")
        self.says(desk, "done", "1")
        self.says(desk, "go", "0 4")
        self.refuses(desk, "go", NoMore)
        self.says(desk, "back", "0 4")
        self.says(desk, "cue fly 1 5 low 3", "ok")
        self.says(desk, "go", "0 4")
        self.says(desk, "hangs high", "none")
        self.says(desk, "go", "2 0")
        self.says(desk, "done", "3")
        self.says(desk, "back", "2 0")
        self.says(desk, "back", "0 4")
        self.says(desk, "back", "0 4")
        self.says(desk, "done", "0")

    def test_a_second_rig_puts_all_aside(self):
        desk = desk_of("cue load high tree", "cue fly 1 5 low 3", "go")
        self.says(desk, "rig plate 3; bar high 9 4 5 1 0 9; piece oak 6 1", "ok")
        self.says(desk, "done", "0")
        self.says(desk, "height high", "4")
        self.says(desk, "hangs high", "none")
        self.says(desk, "dock", "oak")
        self.refuses_alone(desk, "go", NoMore)
        self.refuses_alone(desk, "back", NoMore)
        self.assertEqual(refusal(self, NoName, desk.say, "height low").name, "low")
        self.assertEqual(refusal(self, NoCue, desk.say, "cue fly 1 5 low 3").row, 0)
        self.says(desk, "cue load high oak", "ok")
        self.says(desk, "go", "0 2")

    def refuses_alone(self, desk, row, kind):
        self.assertEqual(vars(refusal(self, kind, desk.say, row)), {})

    def test_the_same_rig_once_more(self):
        desk = desk_of("cue load high tree", "go")
        self.says(desk, "rig " + LINES, "ok")
        self.assertEqual(told(desk), told(desk_of()))
        self.refuses(desk, "go", NoMore)

    def test_two_desks_know_nothing_of_each_other(self):
        one, other = desk_of("cue load high tree", "go"), Desk()
        self.refuses(other, "go", NoLoft)
        other.say("rig " + LINES)
        self.says(other, "hangs high", "none")
        self.says(one, "hangs high", "tree")


class Refused(Case):

    def test_rows_that_are_none(self):
        for row in (*NO_ROWS, *NO_TEXTS):
            with self.subTest(row=row):
                self.refuses(Desk(), row, NoRow)
                self.refuses(desk_of("cue load low wall"), row, NoRow)

    def test_no_loft_ahead_of_the_first_rig(self):
        for row in (*ASKING, "cue load low", "cue nonsense", "cue ", "height other", "height ", "hangs x", "cue  "):
            with self.subTest(row=row):
                self.refuses(Desk(), row, NoLoft)

    def test_no_loft_while_no_rig_was_answered(self):
        desk = Desk()
        for row in ("rig ", "rig nonsense", "rig plate 10"):
            refusal(self, NoRig, desk.say, row)
            self.refuses(desk, "go", NoLoft)
        self.says(desk, "rig " + LINES, "ok")
        self.says(desk, "done", "0")

    def test_lines_that_tell_no_rig(self):
        for rest, number in (
            ("", 0), (" ", 0), ("nonsense", 0), ("plate 10", None), (" plate 10", 0), ("plate 10;bar a 1 0 0 1 0 0", 0),
            ("plate 10; bar a 1 0 0 1 0 0; ", 2), ("plate 10;  bar a 1 0 0 1 0 0", 1), ("; plate 10", 0),
            ("plate 10 ; bar a 1 0 0 1 0 0", 0), ("plate 10; bar a 1 0 0 1 0 0;", 1),
            ("plate 10; ; bar a 1 0 0 1 0 0", 1),
            ("plate 10; bar a 1 0 0 1 0 0; bar a 1 0 0 1 0 0", 2), ("bar a 1 0 0 1 0 0", None), ("piece a 1 0", None),
        ):
            with self.subTest(rest=rest):
                self.refuses(Desk(), "rig " + rest, NoRig, row=number)
                self.refuses(desk_of("cue load high tree", "go"), "rig " + rest, NoRig, row=number)

    def test_a_refused_rig_leaves_the_book(self):
        desk = desk_of("cue load high tree", "cue load high", "go")
        refusal(self, NoRig, desk.say, "rig plate 10")
        self.says(desk, "go", "0 4")
        self.says(desk, "back", "0 4")
        self.says(desk, "back", "0 4")

    def test_no_cue(self):
        for rest in ("", " ", "nonsense", "load", "load other", "load low other", "load  low", "load low ", " load low",
                     "fly 9 5 low 3", "fly 1 5 other 3", "load low; load high", "load low / low", "go"):
            with self.subTest(rest=rest):
                desk = desk_of("cue load high tree", "go")
                self.refuses(desk, "cue " + rest, NoCue, row=0)
                self.refuses(desk, "go", NoMore)

    def test_no_name(self):
        for word in ("height", "plates", "lean", "hangs"):
            for name in ("", "other", "tree", "x", "Low", "low;", "none", "5", "a" * 200):
                with self.subTest(word=word, name=name):
                    self.refuses(desk_of(), f"{word} {name}", NoName, name=name)

    def test_no_more(self):
        self.refuses(desk_of(), "go", NoMore)
        self.refuses(desk_of(), "back", NoMore)
        self.refuses(desk_of("cue load low"), "back", NoMore)
        self.refuses(desk_of("cue load low", "go"), "go", NoMore)
        self.refuses(desk_of("cue load low", "go", "back"), "back", NoMore)

    def test_cues_that_cannot_be_done(self):
        for line, kind, fields in (
            ("load low tree", Taken, {"piece": "tree", "bar": "high"}),
            ("load low iron", Unbalanced, {"bar": "low", "why": "room", "lacks": 31}),
            ("load low lead", TooHeavy, {"bar": "low", "what": "lead"}),
            ("load low wall", Out, {"bar": "low"}),
            ("fly 1 500 high 31", Out, {"bar": "high"}),
            ("fly 1 500 low 11", Meets, {"low": "low", "high": "high"}),
            ("fly 8 3 low 5", TooFar, {"bar": "low", "lacks": 1}),
            ("fly 1 4 low 5 high 15", TooFew, {"lacks": 1}),
        ):
            with self.subTest(line=line):
                desk = desk_of("cue load high tree", "go", "cue " + line, "cue load high")
                self.refuses(desk, "go", kind, **fields)
                self.refuses(desk, "go", kind, **fields)
                self.says(desk, "done", "1")
                self.says(desk, "back", "0 4")


class Long(Case):

    def test_the_longest_rig(self):
        names = [letter * 8 for letter in "abcdefghijkl"]
        lines = ["plate 1000000000000"]
        lines += [f"bar {name} 60 {40 + k} 60 2 100000000000000 1000000000000000" for k, name in enumerate(names[:8])]
        lines += [f"piece {name} 1000000000000 10" for name in names]
        lines += [f"bay {name} {' '.join(names[:8])}" for name in names]
        desk = Desk()
        self.says(desk, "rig " + "; ".join(lines), "ok")
        self.says(desk, "braked", " ".join(names[:8]))
        self.says(desk, "dock", " ".join(names))

    def test_a_hundred_cues(self):
        desk = desk_of()
        for number in range(50):
            desk.say("cue load high tree")
            desk.say("cue load high")
        for number in range(100):
            self.says(desk, "go", "0 4")
        self.refuses(desk, "go", NoMore)
        self.says(desk, "done", "100")
        for number in range(100):
            self.says(desk, "back", "0 4")

    def test_as_a_tally_tells(self):
        dice = dice_of(131)
        for number in range(60):
            rig = any_rig(dice, pieces=12, slack=(0, 25))
            self.goes_like_a_tally(dice, rig)

    def goes_like_a_tally(self, dice, rig):
        lines = [f"plate {rig.plate()}"]
        for bar in rig.bars():
            lines.append(f"bar {bar} {rig.top(bar)} {rig.at(bar)} {rig.room(bar)} {rig.pull(bar)} {rig.slack(bar)} "
                         f"{rig.hold(bar)}")
        lines += [f"piece {piece} {rig.weight(piece)} {rig.drop(piece)}" for piece in rig.pieces()]
        lines += [f"bay {bay} {' '.join(rig.bay(bay))}" for bay in rig.bays()]
        desk, cues = Desk(), []
        self.says(desk, "rig " + "; ".join(lines), "ok")
        loft = Loft(Rig(lines))
        for k in range(6):
            cues.append(any_cue(dice, loft))
            self.says(desk, "cue " + cue_line(cues[-1]), "ok")
        answers = []
        try:
            for cue in cues:
                answers.append(desk.say("go"))
        except LoftError:
            pass
        self.assertEqual(answers, [f"{turns} {plates}" for turns, plates in tally(rig, cues)])
        for answer in reversed(answers):
            self.says(desk, "back", answer)


if __name__ == "__main__":
    unittest.main()
