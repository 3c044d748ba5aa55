"""Points 21 and 3: shows, go and back, and what holds at every moment."""

import copy
import unittest

from flyloft.books import read_book
from flyloft.cueing import at_rest, deeds_of
from flyloft.errors import LoftError, Meets, NoMore, Out, Taken, TooFar, TooFew, TooHeavy, Unbalanced
from flyloft.lofts import Loft
from flyloft.logs import backwards
from flyloft.rigs import Rig
from flyloft.shows import Show
from helper import any_cue, any_rig, dice_of, is_safe, refusal

RIG = Rig([
    "plate 10",
    "bar low 20 1 9 1 5 40",
    "bar high 30 14 9 2 0 60",
    "piece wall 40 6",
    "piece tree 20 3",
    "piece moon 5 1",
    "piece iron 400 0",
    "piece lead 50 0",
    "bay x low high",
])
BOOK = read_book(RIG, [
    "load high tree", "fly 2 20 low 7 high 11", "load low wall / high", "load low moon wall", "fly 1 500 low 6 high 7",
    "load low",
])


class Watched:
    """A show, and a loft that does its deeds beside it, one by one, with all states it was in."""

    def __init__(self, case, rig, cues):
        self.case = case
        self.show = Show(rig, cues)
        self.beside = Loft(rig)
        self.states = [self.beside.state()]

    def follow(self, deeds):
        self.case.assertIs(type(deeds), list)
        states = [self.beside.state()]
        for deed in deeds:
            self.beside.do(deed)
            self.case.assertTrue(is_safe(self.beside))
            states.append(self.beside.state())
        self.case.assertEqual(self.show.loft().state(), self.beside.state())
        self.case.assertEqual(self.show.loft().log(), self.beside.log())
        self.case.assertTrue(at_rest(self.show.loft()))
        return states

    def go(self):
        done = self.show.done()
        states = self.follow(self.show.go())
        self.case.assertEqual(self.show.done(), done + 1)
        return states

    def back(self):
        done = self.show.done()
        states = self.follow(self.show.back())
        self.case.assertEqual(self.show.done(), done - 1)
        return states


class Case(unittest.TestCase):

    def refuses(self, show, ask, kind, **fields):
        before = (show.done(), show.loft().state(), show.loft().log())
        e = refusal(self, kind, ask)
        self.assertEqual(vars(e), fields)
        self.assertEqual((show.done(), show.loft().state(), show.loft().log()), before)


class GoAndBack(Case):

    def test_a_new_one(self):
        show = Show(RIG, BOOK)
        self.assertEqual(show.done(), 0)
        self.assertEqual(show.loft().state(), Loft(RIG).state())
        self.assertEqual(show.loft().log(), [])
        self.assertIs(show.loft(), show.loft())

    def test_through_a_whole_book_and_back(self):
        watched = Watched(self, RIG, BOOK)
        there = [watched.go() for cue in BOOK]
        self.assertEqual(watched.show.loft().hanging("low"), [])
        self.assertEqual(watched.show.loft().heights(), {"low": 6, "high": 7})
        again = [watched.back() for cue in BOOK]
        self.assertEqual(again[::-1], [states[::-1] for states in there])
        self.assertEqual(watched.show.loft().state(), Loft(RIG).state())

    def test_each_cue_is_done_as_told(self):
        show = Show(RIG, BOOK)
        loft = show.loft()
        told = []
        for cue in BOOK:
            show.go()
            told.append((loft.heights(), loft.hanging("low"), loft.hanging("high"), loft.state()[2]))
        self.assertEqual(told, [
            ({"low": 1, "high": 14}, [], ["tree"], (0, 4)),
            ({"low": 7, "high": 11}, [], ["tree"], (0, 4)),
            ({"low": 7, "high": 11}, ["wall"], [], (4, 0)),
            ({"low": 7, "high": 11}, ["wall", "moon"], [], (4, 0)),
            ({"low": 6, "high": 7}, ["wall", "moon"], [], (4, 0)),
            ({"low": 6, "high": 7}, [], [], (0, 0)),
        ])

    def test_the_deeds_of_back_are_those_of_go_backwards(self):
        show = Show(RIG, BOOK)
        gone = [show.go() for cue in BOOK]
        self.assertEqual(show.loft().log(), sum(gone, []))
        for deeds in reversed(gone):
            self.assertEqual(show.back(), backwards(deeds))

    def test_forth_and_back_and_forth(self):
        watched = Watched(self, RIG, BOOK)
        first = watched.go()
        watched.go()
        watched.back()
        watched.back()
        self.assertEqual(watched.go(), first)
        watched.go()
        watched.go()
        self.assertEqual(watched.show.done(), 3)

    def test_no_more_cue_ahead(self):
        empty = Show(RIG, [])
        self.refuses(empty, empty.go, NoMore)
        show = Show(RIG, BOOK[:2])
        show.go()
        show.go()
        self.refuses(show, show.go, NoMore)
        show.back()
        show.go()
        self.refuses(show, show.go, NoMore)

    def test_none_done(self):
        empty = Show(RIG, [])
        self.refuses(empty, empty.back, NoMore)
        show = Show(RIG, BOOK)
        self.refuses(show, show.back, NoMore)
        show.go()
        show.back()
        self.refuses(show, show.back, NoMore)


class RefusedCues(Case):

    def refused_next(self, lines, kind, **fields):
        show = Show(RIG, read_book(RIG, ["load high tree", *lines, "load low"]))
        show.go()
        self.refuses(show, show.go, kind, **fields)
        self.refuses(show, show.go, kind, **fields)
        show.back()
        self.refuses(show, show.back, NoMore)
        show.go()
        self.refuses(show, show.go, kind, **fields)
        self.assertEqual(show.done(), 1)

    def test_it_stays_the_next_one_and_changes_nothing(self):
        self.refused_next(["load low tree"], Taken, piece="tree", bar="high")
        self.refused_next(["load high moon tree / low wall"], Out, bar="low")
        self.refused_next(["load low iron"], Unbalanced, bar="low", why="room", lacks=31)
        self.refused_next(["load low moon lead"], TooHeavy, bar="low", what="lead")
        self.refused_next(["fly 8 500 low 21"], Out, bar="low")
        self.refused_next(["fly 8 500 low 11"], Meets, low="low", high="high")
        self.refused_next(["fly 8 3 low 5"], TooFar, bar="low", lacks=1)
        self.refused_next(["fly 1 4 low 5 high 15"], TooFew, lacks=1)

    def test_a_load_with_one_row_that_cannot_be_done(self):
        self.refused_next(["load high moon / low wall tree"], Taken, piece="tree", bar="high")
        self.refused_next(["load high / low wall moon tree"], Taken, piece="tree", bar="high")


class Apart(Case):

    def test_the_list_of_cues_changed_afterwards(self):
        cues = list(BOOK)
        show = Show(RIG, cues)
        self.assertEqual(cues, BOOK)
        cues.clear()
        gone = [show.go() for cue in BOOK]
        self.assertEqual(len(gone), 6)
        self.refuses(show, show.go, NoMore)
        short = [BOOK[0]]
        show = Show(RIG, short)
        short.append(BOOK[1])
        show.go()
        self.refuses(show, show.go, NoMore)

    def test_told_lists_changed_afterwards(self):
        plain = Show(RIG, BOOK)
        spoilt = Show(RIG, BOOK)
        for cue in BOOK:
            deeds = spoilt.go()
            self.assertEqual(deeds, plain.go())
            for deed in deeds:
                if deed[0] == "turn":
                    deed[1].clear()
            deeds.clear()
            self.assertEqual(spoilt.loft().log(), plain.loft().log())
        for cue in BOOK:
            deeds = spoilt.back()
            self.assertEqual(deeds, plain.back())
            for deed in deeds:
                if deed[0] == "turn":
                    deed[1].append(("low", 1))
            deeds.append(("put", "low"))
            self.assertEqual(spoilt.loft().log(), plain.loft().log())
        self.assertEqual(spoilt.loft().state(), plain.loft().state())

    def test_told_deeds_stay_as_they_were(self):
        show = Show(RIG, BOOK)
        gone = [show.go() for cue in BOOK]
        kept = copy.deepcopy(gone)
        back = [show.back() for cue in BOOK]
        kept_back = copy.deepcopy(back)
        show.go()
        self.assertEqual((gone, back), (kept, kept_back))

    def test_two_shows_of_one_rig(self):
        one, other = Show(RIG, BOOK), Show(RIG, BOOK)
        one.go()
        self.assertEqual((other.done(), other.loft().state()), (0, Loft(RIG).state()))


class Promise(Case):

    def book_for(self, dice, rig, many):
        """Cues of which most can be done one behind the other."""
        show = Show(rig, [])
        cues = []
        for number in range(many):
            cue = any_cue(dice, show.loft())
            try:
                for deed in deeds_of(show.loft(), cue):
                    show.loft().do(deed)
            except LoftError:
                if dice.randint(0, 9):
                    continue
            cues.append(cue)
        return cues

    def test_any_rig_and_book(self):
        dice = dice_of(111)
        went = refused = 0
        for number in range(120):
            rig = any_rig(dice, pieces=12, slack=(0, 25))
            cues = self.book_for(dice, rig, 15)
            watched = Watched(self, rig, cues)
            ways = []
            for k in range(40):
                if dice.randint(0, 3):
                    try:
                        ways.append(watched.go())
                        went += 1
                    except LoftError as e:
                        self.assertEqual(type(e) is NoMore, watched.show.done() == len(cues))
                        refused += type(e) is not NoMore
                        self.assertEqual(watched.show.loft().state(), watched.beside.state())
                elif ways:
                    self.assertEqual(watched.back(), ways.pop()[::-1])
                else:
                    self.refuses(watched.show, watched.show.back, NoMore)
                self.assertEqual(watched.show.done(), len(ways))
            while ways:
                self.assertEqual(watched.back(), ways.pop()[::-1])
            self.assertEqual(watched.show.loft().state(), Loft(rig).state())
        self.assertGreater(went, 1000)
        self.assertGreater(refused, 30)


if __name__ == "__main__":
    unittest.main()
