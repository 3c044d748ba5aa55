"""Point 22: tallies, the first refused cue, what a bar's plates show."""

import itertools
import unittest

from flyloft.books import read_book
from flyloft.chains import worth
from flyloft.errors import LoftError
from flyloft.rigs import Rig
from flyloft.shows import Show
from flyloft.tallies import first_refused, shown_by, tally
from helper import any_cue, any_rig, balancing, dice_of

RIG = Rig([
    "plate 10",
    "bar low 20 1 9 1 5 40",
    "bar high 30 14 9 2 0 60",
    "bar side 9 0 0 1 0 0",
    "piece wall 40 6",
    "piece tree 20 3",
    "piece moon 5 1",
    "bay x low high",
])
BOOK = read_book(RIG, [
    "load high tree", "fly 2 20 low 7 high 11", "load low wall / high", "load low moon wall", "fly 1 500 low 6 high 7",
    "fly 1 0 low 6", "load low", "load low",
])
WRONG = read_book(RIG, ["fly 1 500 low 60"])


def any_book(dice, rig, many):
    """Cues that can all be done."""
    show = Show(rig, [])
    cues = []
    for number in range(many):
        cue = any_cue(dice, show.loft())
        trial = Show(rig, [*cues, cue])
        try:
            for each in [*cues, cue]:
                trial.go()
        except LoftError:
            continue
        cues.append(cue)
        show = trial
    return cues


class Tally(unittest.TestCase):

    def test_a_book_that_can_be_done(self):
        told = tally(RIG, BOOK)
        self.assertIs(type(told), list)
        self.assertEqual(told, [(0, 4), (6, 0), (0, 8), (0, 0), (5, 0), (0, 0), (0, 4), (0, 0)])
        self.assertEqual([type(each) for each in told], [tuple] * 8)
        self.assertIsNone(first_refused(RIG, BOOK))

    def test_no_cues(self):
        self.assertEqual(tally(RIG, []), [])
        self.assertIsNone(first_refused(RIG, []))
        self.assertEqual(tally(RIG, WRONG), [])
        self.assertEqual(first_refused(RIG, WRONG), 0)

    def test_one_that_cannot_be_done(self):
        whole = tally(RIG, BOOK)
        for place in range(len(BOOK) + 1):
            cues = BOOK[:place] + WRONG + BOOK[place:]
            kept = list(cues)
            self.assertEqual(tally(RIG, cues), whole[:place])
            self.assertEqual(first_refused(RIG, cues), place)
            self.assertIs(type(first_refused(RIG, cues)), int)
            self.assertEqual(cues, kept)
            self.assertEqual(first_refused(RIG, [*cues, *WRONG]), place)

    def test_told_lists_are_the_askers_own(self):
        first = tally(RIG, BOOK)
        kept = list(first)
        first.clear()
        self.assertEqual(tally(RIG, BOOK), kept)

    def test_as_a_show_does_it(self):
        dice = dice_of(121)
        for number in range(60):
            rig = any_rig(dice, pieces=12, slack=(0, 25))
            cues = any_book(dice, rig, 8)
            show = Show(rig, cues)
            told = []
            for cue in cues:
                words = [deed[0] for deed in show.go()]
                told.append((words.count("turn"), words.count("put") + words.count("lift")))
            self.assertEqual(tally(rig, cues), told)
            self.assertIsNone(first_refused(rig, cues))


class Shown(unittest.TestCase):

    def shows(self, rig, cues, bar):
        kept = list(cues)
        told = shown_by(rig, cues, bar)
        self.assertEqual(cues, kept)
        self.assertIs(type(told), tuple)
        moved, chain = told
        self.assertIs(type(chain), list)
        show, stretches, counts = Show(rig, cues), [], [0]
        words = []
        for cue in cues:
            words += [deed[0] for deed in show.go() if deed[1] == bar]
            fit = balancing(rig, bar, show.loft().hanging(bar))
            stretches.append((fit[0], fit[-1]))
            counts.append(show.loft().plates(bar))
        self.assertEqual(moved, words.count("put") + words.count("lift"))
        self.assertEqual(moved, sum(abs(later - earlier) for earlier, later in zip(counts, counts[1:])))
        self.assertTrue(all(0 <= number <= len(cues) for number in chain))
        self.assertTrue(all(one < other for one, other in zip(chain, chain[1:])))
        linked = [[(0, 0), *stretches][number] for number in chain]
        gaps = [max(0, one[0] - other[1], other[0] - one[1]) for one, other in zip(linked, linked[1:])]
        self.assertEqual(sum(gaps), moved)
        self.assertEqual(worth(0, stretches, chain), moved)
        return moved, stretches

    def test_of_each_bar(self):
        self.assertEqual(self.shows(RIG, BOOK, "low")[0], 8)
        self.assertEqual(self.shows(RIG, BOOK, "high")[0], 8)
        self.assertEqual(self.shows(RIG, BOOK, "side")[0], 0)
        for many in range(len(BOOK)):
            for bar in RIG.bars():
                self.shows(RIG, BOOK[:many], bar)

    def test_no_cues(self):
        for bar in RIG.bars():
            self.assertEqual(self.shows(RIG, [], bar)[0], 0)

    def test_told_chains_are_the_askers_own(self):
        first = shown_by(RIG, BOOK, "low")
        kept = list(first[1])
        first[1].clear()
        self.assertEqual(shown_by(RIG, BOOK, "low"), (8, kept))

    def test_many(self):
        dice = dice_of(122)
        carried = 0
        for number in range(60):
            rig = any_rig(dice, pieces=12, plate=(2, 8), slack=(4, 12), drop=(0, 1))
            cues = any_book(dice, rig, 15)
            total = 0
            for bar in rig.bars():
                total += self.shows(rig, cues, bar)[0]
            self.assertEqual(total, sum(plates for turns, plates in tally(rig, cues)))
            carried += total > 5
        self.assertGreater(carried, 20)

    def test_no_way_carries_fewer(self):
        dice = dice_of(123)
        tried = 0
        for number in range(120):
            rig = any_rig(dice, pieces=6, weight=(5, 20), plate=(5, 8), slack=(4, 9), drop=(0, 1))
            cues = any_book(dice, rig, 8)[:5]
            for bar in rig.bars():
                moved, stretches = self.shows(rig, cues, bar)
                paths = list(itertools.product(*[range(least, most + 1) for least, most in stretches]))
                fewest = min(sum(abs(b - a) for a, b in zip((0, *path), path)) for path in paths)
                self.assertEqual(moved, fewest)
                tried += moved > 2
        self.assertGreater(tried, 20)


if __name__ == "__main__":
    unittest.main()
