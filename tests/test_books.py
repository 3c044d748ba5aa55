"""Point 19: cues, their lines, books."""

import unittest

from flyloft.books import cue_line, read_book
from flyloft.errors import NoCue
from flyloft.rigs import Rig
from helper import LETTERS, any_rig, bar_line, dice_of, refusal

RIG = Rig([
    "plate 10", bar_line("low", top=20), bar_line("high", top=30), bar_line("fly"), bar_line("load"),
    "piece tree 5 1", "piece moon 5 1", "piece low 5 1", "piece wall 5 1",
])

CUES = {
    "fly 1 0 low 0": ("fly", 1, 0, (("low", 0),)),
    "fly 8 500 high 60 low 7": ("fly", 8, 500, (("high", 60), ("low", 7))),
    "fly 2 30 load 1 fly 2 low 3 high 4": ("fly", 2, 30, (("load", 1), ("fly", 2), ("low", 3), ("high", 4))),
    "load low": ("load", (("low", ()),)),
    "load low tree": ("load", (("low", ("tree",)),)),
    "load high moon low tree": ("load", (("high", ("moon", "low", "tree")),)),
    "load low tree / high": ("load", (("low", ("tree",)), ("high", ()))),
    "load low / high": ("load", (("low", ()), ("high", ()))),
    "load high wall moon / fly / low low / load tree": (
        "load", (("high", ("wall", "moon")), ("fly", ()), ("low", ("low",)), ("load", ("tree",)))
    ),
}

NO_FLIGHTS = [
    "fly", "fly 1", "fly 1 5", "fly 1 5 low", "fly 1 5 low 3 high", "fly 1 5 low 3 4", "fly 1 5 3 low", "fly low 3",
    "fly 1 low 3", "fly 5 low 3 high 4", "fly 1 5 6 low 3", "fly 1 5 low high", "fly 1 5 low high 3 4",
    "fly 0 5 low 3", "fly 9 5 low 3", "fly 10 5 low 3", "fly 1 501 low 3", "fly 1 1000 low 3", "fly 1 5 low 61",
    "fly 1 5 high 4 low 61", "fly 1 5 low 61 high 4", "fly 1 5 low 600", "fly 01 5 low 3", "fly 1 05 low 3",
    "fly 1 5 low 03", "fly +1 5 low 3", "fly 1 -5 low 3", "fly 1 5 low -3", "fly 1 5 low 3.", "fly one 5 low 3",
    "fly 1 00 low 3", "fly 1 5 low x", "fly 1 5 tree 3", "fly 1 5 other 3", "fly 1 5 LOW 3", "fly 1 5 lo 3",
    "fly 1 5 low 3 other 3", "fly 1 5 low 3 low 4", "fly 1 5 low 3 low 3", "fly 1 5 low 3 high 4 low 3",
    "fly 1 5 low 3 / high 4", "fly 1 5 low 3 /", "fly 1 5 / low 3",
]
NO_LOADS = [
    "load", "load tree", "load other", "load LOW", "load low other", "load low high", "load low tree other",
    "load other tree", "load low / other", "load low / tree", "load low / low", "load low tree / low moon",
    "load low / high / low", "load low tree tree", "load low tree moon tree", "load low tree / high tree",
    "load low tree / high / fly moon tree", "load / low", "load /", "load low /", "load low tree /",
    "load low / / high", "load low tree / / high moon", "load / low / high", "load low/ high", "load low /high",
    "load low/high",
    "load low 5", "load low tree, moon", "load low // high",
]
NO_CUES = [
    "", " ", "  ", "go", "flies 1 5 low 3", "Fly 1 5 low 3", "FLY 1 5 low 3", "loads low", "Load low", "low tree",
    "1 5 low 3", "fly1 5 low 3", "/", "back", "loadlow", "cue fly 1 5 low 3",
]


class Read(unittest.TestCase):

    def test_each_line_and_back(self):
        for line, cue in CUES.items():
            with self.subTest(line=line):
                self.assertEqual(read_book(RIG, [line]), [cue])
                self.assertEqual(cue_line(cue), line)

    def test_kinds(self):
        flight, load = read_book(RIG, ["fly 1 5 low 3", "load low tree / high"])
        self.assertEqual([type(each) for each in (flight, *flight)], [tuple, str, int, int, tuple])
        self.assertEqual([type(each) for each in flight[3][0]], [str, int])
        self.assertEqual([type(each) for each in (load, *load, load[1][0], load[1][1][1])], [tuple, str] + [tuple] * 3)

    def test_several_in_their_order(self):
        lines = list(CUES)
        self.assertEqual(read_book(RIG, lines), list(CUES.values()))
        self.assertEqual(lines, list(CUES))
        self.assertEqual(read_book(RIG, lines[::-1] * 11), list(CUES.values())[::-1] * 11)

    def test_no_lines(self):
        self.assertEqual(read_book(RIG, []), [])

    def test_bounds(self):
        for hands in range(1, 9):
            self.assertEqual(read_book(RIG, [f"fly {hands} 5 low 3"]), [("fly", hands, 5, (("low", 3),))])
        for turns in (0, 1, 499, 500):
            self.assertEqual(read_book(RIG, [f"fly 1 {turns} low 3"]), [("fly", 1, turns, (("low", 3),))])
        for height in (0, 1, 20, 21, 59, 60):
            self.assertEqual(read_book(RIG, [f"fly 1 5 low {height}"]), [("fly", 1, 5, (("low", height),))])

    def test_told_lists_are_the_askers_own(self):
        lines = ["load low"]
        first = read_book(RIG, lines)
        first.append(1)
        self.assertEqual(read_book(RIG, lines), [("load", (("low", ()),))])


class Refused(unittest.TestCase):

    def refuses(self, line):
        with self.subTest(line=line):
            good = list(CUES)
            for lines, row in (([line], 0), ([*good, line, "nonsense"], len(good)), ([good[0], line, *good], 1)):
                e = refusal(self, NoCue, read_book, RIG, lines)
                self.assertEqual(e.row, row)
                self.assertIs(type(e.row), int)

    def test_no_flights(self):
        for line in NO_FLIGHTS:
            self.refuses(line)

    def test_no_loads(self):
        for line in NO_LOADS:
            self.refuses(line)

    def test_other_first_words(self):
        for line in NO_CUES:
            self.refuses(line)

    def test_blanks_too_many_or_at_an_end(self):
        for line in CUES:
            self.refuses(" " + line)
            self.refuses(line + " ")
            words = line.split(" ")
            for place in range(1, len(words)):
                self.refuses(" ".join(words[:place]) + "  " + " ".join(words[place:]))

    def test_names_of_another_rig(self):
        other = Rig(["plate 1", bar_line("low"), "piece tree 1 1"])
        self.assertEqual(read_book(other, ["load low tree"]), [("load", (("low", ("tree",)),))])
        for line in ("load high", "load low moon", "fly 1 5 high 3"):
            self.assertEqual(refusal(self, NoCue, read_book, other, ["fly 1 5 low 3", line]).row, 1)


class Tried(unittest.TestCase):

    def test_any_cue_is_read_as_it_was_written(self):
        dice = dice_of(91)
        for number in range(500):
            rig = any_rig(dice, pieces=12)
            bars = dice.sample(rig.bars(), dice.randint(1, len(rig.bars())))
            pieces = dice.sample(rig.pieces(), len(rig.pieces()))
            rows = []
            for bar in bars:
                many = dice.randint(0, 3)
                rows.append((bar, tuple(pieces[:many])))
                pieces = pieces[many:]
            goal = tuple((bar, dice.randint(0, 60)) for bar in bars)
            cues = [("load", tuple(rows)), ("fly", dice.randint(1, 8), dice.randint(0, 500), goal)]
            self.assertEqual(read_book(rig, [cue_line(cue) for cue in cues]), cues)

    def test_the_longest_lines(self):
        names = [letter * 8 for letter in LETTERS[:12]]
        rig = Rig(["plate 1", *[bar_line(name) for name in names[:8]], *[f"piece {name} 1 0" for name in names]])
        rows = tuple((name, tuple(names[8:]) + (name,) if name == names[0] else (name,)) for name in names[:8])
        line = cue_line(("load", rows))
        self.assertEqual(read_book(rig, [line]), [("load", rows)])
        self.assertLessEqual(len(line), 200)
        goal = tuple((name, 60) for name in names[:8])
        self.assertEqual(read_book(rig, [cue_line(("fly", 8, 500, goal))]), [("fly", 8, 500, goal)])


if __name__ == "__main__":
    unittest.main()
