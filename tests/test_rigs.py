"""Point 5: rigs, told by lines, and what tells none."""

import unittest

from flyloft.errors import LoftError, NoName, NoRig
from flyloft.rigs import Rig

PLATE = "plate 10"
LOW = "bar low 20 1 5 1 10 100"
MID = "bar mid 30 4 6 2 0 200"
HIGH = "bar high 40 9 0 1 300 300"
TREE = "piece tree 50 3"
MOON = "piece moon 7 0"
LINES = [PLATE, LOW, MID, HIGH, TREE, MOON, "bay left low high", "bay all low mid high"]

BAR_ASKED = ("top", "at", "room", "pull", "slack", "hold")
PIECE_ASKED = ("weight", "drop")
LETTERS = "abcdefghijklm"


def bar_line(name, top=60, at=0, room=0, pull=1, slack=0, hold=0):
    return f"bar {name} {top} {at} {room} {pull} {slack} {hold}"


def bar_lines(many):
    return [bar_line(LETTERS[k], at=k) for k in range(many)]


def told(rig):
    """All that a rig tells, as one value."""
    return (
        rig.plate(),
        [(bar, [getattr(rig, asked)(bar) for asked in BAR_ASKED]) for bar in rig.bars()],
        [(piece, [getattr(rig, asked)(piece) for asked in PIECE_ASKED]) for piece in rig.pieces()],
        [(bay, rig.bay(bay)) for bay in rig.bays()],
    )


class Case(unittest.TestCase):

    def refuses(self, lines, row):
        with self.subTest(lines=lines):
            with self.assertRaises(NoRig) as caught:
                Rig(lines)
            self.assertEqual(caught.exception.row, row)
            self.assertIs(type(caught.exception.row), type(row))

    def refuses_line(self, line, ahead=(PLATE, LOW, MID, HIGH)):
        """The line is refused where it stands, whatever comes behind it."""
        Rig(list(ahead))
        self.refuses([*ahead, line], len(ahead))
        self.refuses([*ahead, line, TREE, "nonsense"], len(ahead))


class Told(Case):

    def test_all_of_a_rig(self):
        self.assertEqual(
            told(Rig(LINES)),
            (
                10,
                [
                    ("low", [20, 1, 5, 1, 10, 100]),
                    ("mid", [30, 4, 6, 2, 0, 200]),
                    ("high", [40, 9, 0, 1, 300, 300]),
                ],
                [("tree", [50, 3]), ("moon", [7, 0])],
                [("left", ["low", "high"]), ("all", ["low", "mid", "high"])],
            ),
        )

    def test_the_least_rig(self):
        for lines in (["plate 1", "bar a 1 0 0 1 0 0"], ["bar a 1 0 0 1 0 0", "plate 1"]):
            self.assertEqual(told(Rig(lines)), (1, [("a", [1, 0, 0, 1, 0, 0])], [], []))

    def test_order_of_the_lines(self):
        lines = [MOON, HIGH, "bar a 9 0 0 1 0 0", "bay z a high", TREE, LOW, "bay b low high", PLATE, MID]
        rig = Rig(lines)
        self.assertEqual(rig.bars(), ["high", "a", "low", "mid"])
        self.assertEqual(rig.pieces(), ["moon", "tree"])
        self.assertEqual(rig.bays(), ["z", "b"])
        self.assertEqual(rig.bay("z"), ["a", "high"])
        self.assertEqual(rig.bay("b"), ["low", "high"])
        self.assertEqual(rig.plate(), 10)

    def test_like_names_across_sorts(self):
        lines = [PLATE, LOW, MID, "piece low 5 6", "bay low low mid", "piece mid 1 0", "bay mid low mid"]
        rig = Rig(lines)
        self.assertEqual(rig.bars(), ["low", "mid"])
        self.assertEqual(rig.pieces(), ["low", "mid"])
        self.assertEqual(rig.bays(), ["low", "mid"])
        self.assertEqual((rig.top("low"), rig.weight("low"), rig.bay("low")), (20, 5, ["low", "mid"]))

    def test_words_of_the_lines_as_names(self):
        lines = ["bar plate 9 0 0 1 0 0", "bar bar 9 1 0 1 0 0", "piece piece 1 0", "bay bay plate bar", PLATE]
        rig = Rig(lines)
        self.assertEqual(rig.bars(), ["plate", "bar"])
        self.assertEqual(rig.pieces(), ["piece"])
        self.assertEqual(rig.bay("bay"), ["plate", "bar"])

    def test_the_longest_names(self):
        rig = Rig([PLATE, bar_line("abcdefgh"), bar_line("abcdefgg", at=1), "piece zzzzzzzz 1 0",
                   "bay yyyyyyyy abcdefgh abcdefgg"])
        self.assertEqual(rig.bars(), ["abcdefgh", "abcdefgg"])
        self.assertEqual(rig.pieces(), ["zzzzzzzz"])
        self.assertEqual(rig.bay("yyyyyyyy"), ["abcdefgh", "abcdefgg"])

    def test_one_to_eight_bars(self):
        for many in range(1, 9):
            self.assertEqual(Rig([PLATE, *bar_lines(many)]).bars(), list(LETTERS[:many]))

    def test_twelve_pieces_and_twelve_bays(self):
        pieces = [f"piece {name} 1 0" for name in LETTERS[:12]]
        bays = [f"bay {name} a b" for name in LETTERS[:12]]
        rig = Rig([PLATE, *bar_lines(8), *pieces, *bays])
        self.assertEqual(rig.pieces(), list(LETTERS[:12]))
        self.assertEqual(rig.bays(), list(LETTERS[:12]))

    def test_bays_of_two_to_eight_bars(self):
        for many in range(2, 9):
            names = list(LETTERS[8 - many:8])
            rig = Rig([PLATE, *bar_lines(8), "bay x " + " ".join(names)])
            self.assertEqual(rig.bay("x"), names)

    def test_bays_of_like_bars(self):
        rig = Rig([PLATE, LOW, MID, "bay one low mid", "bay two low mid"])
        self.assertEqual(rig.bay("one"), rig.bay("two"))

    def test_bars_of_a_bay_in_another_order_than_told(self):
        rig = Rig([PLATE, HIGH, MID, LOW, "bay all low mid high"])
        self.assertEqual(rig.bay("all"), ["low", "mid", "high"])
        self.assertEqual(rig.bars(), ["high", "mid", "low"])


class Bounds(Case):

    def test_plate(self):
        self.assertEqual(Rig(["plate 1", LOW]).plate(), 1)
        self.assertEqual(Rig(["plate 1000000000000", LOW]).plate(), 10 ** 12)
        self.refuses(["plate 0", LOW], 0)
        self.refuses(["plate 1000000000001", LOW], 0)

    def bar_takes(self, asked, number, **others):
        rig = Rig([PLATE, bar_line("a", **{asked: number}, **others)])
        self.assertEqual(getattr(rig, asked)("a"), number)

    def bar_refuses(self, **numbers):
        self.refuses([PLATE, bar_line("a", **numbers), TREE], 1)

    def test_top(self):
        self.bar_takes("top", 1)
        self.bar_takes("top", 60)
        self.bar_refuses(top=0)
        self.bar_refuses(top=61)

    def test_at(self):
        self.bar_takes("at", 0)
        self.bar_takes("at", 60)
        self.bar_takes("at", 17, top=17)
        self.bar_takes("at", 1, top=1)
        self.bar_refuses(at=61)
        self.bar_refuses(at=18, top=17)
        self.bar_refuses(at=2, top=1)
        self.bar_refuses(at=-1)

    def test_room(self):
        self.bar_takes("room", 0)
        self.bar_takes("room", 60)
        self.bar_refuses(room=61)
        self.bar_refuses(room=-1)

    def test_pull(self):
        self.bar_takes("pull", 1)
        self.bar_takes("pull", 2)
        self.bar_refuses(pull=0)
        self.bar_refuses(pull=3)

    def test_slack(self):
        self.bar_takes("slack", 0, hold=5)
        self.bar_takes("slack", 5, hold=5)
        self.bar_takes("slack", 10 ** 15, hold=10 ** 15)
        self.bar_refuses(slack=6, hold=5)
        self.bar_refuses(slack=1, hold=0)
        self.bar_refuses(slack=10 ** 15 + 1, hold=10 ** 15)
        self.bar_refuses(slack=-1, hold=5)

    def test_hold(self):
        self.bar_takes("hold", 0)
        self.bar_takes("hold", 10 ** 15)
        self.bar_refuses(hold=10 ** 15 + 1)
        self.bar_refuses(slack=10 ** 15 + 1, hold=10 ** 15 + 1)
        self.bar_refuses(hold=-1)

    def test_weight(self):
        self.assertEqual(Rig([PLATE, LOW, "piece a 1 0"]).weight("a"), 1)
        self.assertEqual(Rig([PLATE, LOW, "piece a 1000000000000 0"]).weight("a"), 10 ** 12)
        self.refuses_line("piece a 0 0")
        self.refuses_line("piece a 1000000000001 0")

    def test_drop(self):
        self.assertEqual(Rig([PLATE, LOW, "piece a 1 0"]).drop("a"), 0)
        self.assertEqual(Rig([PLATE, LOW, "piece a 1 60"]).drop("a"), 60)
        self.refuses_line("piece a 1 61")
        self.refuses_line("piece a 1 -1")


class Forms(Case):

    def test_lines_of_no_sort(self):
        for line in ("", " ", "  ", "rig", "plates 5", "Plate 5", "PLATE 5", "bars a 9 0 0 1 0 0", "5", "a",
                     "low 20 1 5 1 10 100", "pieces a 1 0", "bays x low mid", "Bay x low mid", "plate5", "#"):
            self.refuses_line(line)
            self.refuses([line, *LINES], 0)

    def test_words_too_few_or_too_many(self):
        for line in ("plate", "plate 5 5", "plate a 5"):
            self.refuses([line, LOW], 0)
        for line in ("bar", "bar a", "bar a 9", "bar a 9 0 0 1 0", "bar a 9 0 0 1 0 0 0", "bar 9 0 0 1 0 0",
                     "piece", "piece a", "piece a 1", "piece a 1 0 0", "piece 1 0", "bay", "bay x", "bay x low"):
            self.refuses_line(line)

    def test_blanks_too_many_or_at_an_end(self):
        for line in (PLATE, bar_line("a"), "piece a 1 0", "bay x low mid"):
            ahead = [LOW, MID] if line == PLATE else [PLATE, LOW, MID]
            Rig([*ahead, line])
            self.refuses([*ahead, " " + line], len(ahead))
            self.refuses([*ahead, line + " "], len(ahead))
            words = line.split(" ")
            for place in range(1, len(words)):
                wide = " ".join(words[:place]) + "  " + " ".join(words[place:])
                self.refuses([*ahead, wide], len(ahead))

    def test_words_parted_by_something_else(self):
        for line in ("piece\ta\t1\t0", "piece,a,1,0", "piece a 1\t0", "piece a 1 0\n", "bay x low,mid"):
            self.refuses_line(line)

    def test_numbers_not_written_as_in_4(self):
        for wrong in ("01", "00", "+1", "-1", "1.", "1.0", "1_0", "x", "a1", "1a", "0x1", "10000000000000000"):
            self.refuses(["plate " + wrong, LOW], 0)
            for line in (bar_line("a", top=2, hold=9), "piece a 1 0"):
                words = line.split(" ")
                for place in range(2, len(words)):
                    self.refuses_line(" ".join([*words[:place], wrong, *words[place + 1:]]))

    def test_numbers_that_are_bare_noughts_ahead(self):
        self.refuses(["plate 010", LOW], 0)
        self.refuses_line(bar_line("a", room="05"))
        self.refuses_line("piece a 05 0")

    def test_names_that_are_none(self):
        for wrong in ("A", "aB", "a1", "1", "0", "a-b", "a_b", "abcdefghi", "~", "a/"):
            self.refuses_line(bar_line(wrong))
            self.refuses_line(f"piece {wrong} 1 0")
            self.refuses_line(f"bay {wrong} low mid")
            self.refuses_line(f"bay x low {wrong}")

    def test_at_above_top_and_slack_above_hold(self):
        self.refuses_line("bar a 9 10 0 1 0 0")
        self.refuses_line("bar a 9 0 0 1 8 7")

    def test_a_name_told_above(self):
        self.refuses_line(bar_line("low"))
        self.refuses_line(LOW)
        self.refuses_line(MOON, [PLATE, LOW, MOON])
        self.refuses_line("piece moon 8 8", [PLATE, LOW, MOON, TREE])
        self.refuses_line("bay x low high", [PLATE, LOW, MID, HIGH, "bay x low mid"])
        self.refuses_line("bay x low mid", [PLATE, LOW, MID, "bay x low mid"])


class Bays(Case):

    def test_of_no_bar_of_one_and_of_nine(self):
        bars = [PLATE, *bar_lines(8)]
        self.refuses_line("bay x", bars)
        self.refuses_line("bay x a", bars)
        self.refuses_line("bay x a b c d e f g h i", bars)
        self.refuses_line("bay x a b c d e f g h h", bars)
        self.refuses_line("bay x a b c d e f g h a", bars)

    def test_of_a_bar_twice(self):
        for line in ("bay x low low", "bay x low mid mid", "bay x low mid low", "bay x low low mid"):
            self.refuses_line(line)

    def test_of_bars_that_are_not_told_above(self):
        self.refuses_line("bay x low other")
        self.refuses_line("bay x other low")
        self.refuses_line("bay x low tree", [PLATE, LOW, TREE])
        self.refuses_line("bay x low y", [PLATE, LOW, MID, "bay y low mid"])
        self.refuses([PLATE, LOW, "bay x low mid", MID], 2)
        self.refuses(["bay x low mid", PLATE, LOW, MID], 0)

    def test_of_bars_that_do_not_rise(self):
        for line in ("bay x mid low", "bay x low high mid", "bay x mid low high", "bay x high mid low"):
            self.refuses_line(line)
        level = [PLATE, LOW, bar_line("even", at=1), MID]
        self.refuses_line("bay x low even", level)
        self.refuses_line("bay x even low", level)
        self.refuses_line("bay x low even mid", level)
        self.assertEqual(Rig([*level, "bay x even mid"]).bay("x"), ["even", "mid"])

    def test_of_bars_that_rise_by_one(self):
        rig = Rig([PLATE, bar_line("a", at=0), bar_line("b", at=1), "bay x a b"])
        self.assertEqual(rig.bay("x"), ["a", "b"])
        self.refuses_line("bay x a b", [PLATE, bar_line("a", at=0), bar_line("b", at=0)])


class TooMany(Case):

    def test_a_second_plate(self):
        self.refuses_line(PLATE)
        self.refuses_line("plate 11")
        self.refuses(["plate 1", "plate 2", LOW], 1)

    def test_a_ninth_bar(self):
        self.refuses_line(bar_line("i"), [PLATE, *bar_lines(8)])

    def test_a_thirteenth_piece(self):
        pieces = [f"piece {name} 1 0" for name in LETTERS]
        self.refuses_line(pieces[12], [PLATE, LOW, *pieces[:12]])

    def test_a_thirteenth_bay(self):
        bays = [f"bay {name} low mid" for name in LETTERS]
        self.refuses_line(bays[12], [PLATE, LOW, MID, *bays[:12]])


class Rows(Case):

    def test_the_first_of_several(self):
        self.refuses(["plate 0", "bar", "piece"], 0)
        self.refuses([PLATE, LOW, LOW, "nonsense", PLATE], 2)
        self.refuses([PLATE, LOW, "piece a 0 0", LOW], 2)
        self.refuses([LOW, "bay x low low", "plate 0"], 1)

    def test_a_line_that_is_none_goes_ahead_of_what_is_not_told(self):
        self.refuses(["nonsense"], 0)
        self.refuses([TREE, "nonsense"], 1)
        self.refuses([PLATE, "bar"], 1)

    def test_a_line_that_is_none_does_not_count_as_told(self):
        self.refuses(["plate 0", PLATE, LOW], 0)
        self.refuses([PLATE, "bar low 0 0 0 1 0 0", LOW], 1)

    def test_none_where_no_plate_is_told(self):
        self.refuses([LOW], None)
        self.refuses([LOW, MID, TREE, "bay x low mid"], None)

    def test_none_where_no_bar_is_told(self):
        self.refuses([PLATE], None)
        self.refuses([PLATE, TREE], None)

    def test_none_where_neither_is_told(self):
        self.refuses([TREE], None)
        self.refuses([TREE, MOON], None)

    def test_none_where_no_lines_are(self):
        self.refuses([], None)

    def test_far_down(self):
        full = [PLATE, *bar_lines(8), *[f"piece {name} 1 0" for name in LETTERS[:12]],
                *[f"bay {name} a b" for name in LETTERS[:12]]]
        Rig(full)
        self.refuses([*full, *["nonsense"] * 27], 33)


class Names(Case):

    def refuses_name(self, asked, name):
        with self.subTest(asked=asked, name=name):
            with self.assertRaises(NoName) as caught:
                getattr(Rig(LINES), asked)(name)
            self.assertEqual(caught.exception.name, name)
            self.assertIsInstance(caught.exception, LoftError)

    def test_names_of_no_sort(self):
        for asked in (*BAR_ASKED, *PIECE_ASKED, "bay"):
            for name in ("", "other", "lo", "lows", "Low", " low", "low ", "0", "plate", "weight", "top"):
                self.refuses_name(asked, name)

    def test_names_of_another_sort(self):
        for name in ("tree", "moon", "left", "all"):
            for asked in BAR_ASKED:
                self.refuses_name(asked, name)
        for name in ("low", "mid", "high", "left", "all"):
            for asked in PIECE_ASKED:
                self.refuses_name(asked, name)
        for name in ("low", "mid", "high", "tree", "moon"):
            self.refuses_name("bay", name)

    def test_a_refused_name_changes_nothing(self):
        rig = Rig(LINES)
        for asked in (*BAR_ASKED, *PIECE_ASKED, "bay"):
            with self.assertRaises(NoName):
                getattr(rig, asked)("other")
        self.assertEqual(told(rig), told(Rig(LINES)))


class Copies(Case):

    def test_the_lines_stay_as_they_were(self):
        lines = list(LINES)
        Rig(lines)
        self.assertEqual(lines, LINES)
        wrong = [*LINES, "nonsense"]
        with self.assertRaises(NoRig):
            Rig(wrong)
        self.assertEqual(wrong, [*LINES, "nonsense"])

    def test_what_is_done_to_the_lines_afterwards(self):
        lines = list(LINES)
        rig = Rig(lines)
        before = told(rig)
        lines.append("piece late 1 1")
        lines[0] = "plate 99"
        self.assertEqual(told(rig), before)
        lines.clear()
        self.assertEqual(told(rig), before)

    def test_what_is_done_to_a_list_that_was_told(self):
        rig = Rig(LINES)
        before = told(rig)
        for ask in (rig.bars, rig.pieces, rig.bays, lambda: rig.bay("all")):
            first = ask()
            self.assertIs(type(first), list)
            kept = list(first)
            second = ask()
            first.reverse()
            first.append("other")
            self.assertEqual(second, kept)
            self.assertEqual(ask(), kept)
            second.clear()
            self.assertEqual(ask(), kept)
            self.assertEqual(told(rig), before)

    def test_two_rigs_know_nothing_of_each_other(self):
        one = Rig(LINES)
        other = Rig(["plate 3", "bar low 5 5 5 2 5 5"])
        self.assertEqual(told(other), (3, [("low", [5, 5, 5, 2, 5, 5])], [], []))
        self.assertEqual(told(one), told(Rig(LINES)))


if __name__ == "__main__":
    unittest.main()
