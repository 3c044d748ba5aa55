"""Point 18: what undoes a deed, and deeds backwards."""

import copy
import unittest

from flyloft.errors import LoftError
from flyloft.lofts import Loft
from flyloft.logs import backwards, undone
from helper import any_deed, any_rig, dice_of

PAIRS = [
    (("brake", "low"), ("loose", "low")),
    (("hang", "low", "tree"), ("strike", "low", "tree")),
    (("put", "low"), ("lift", "low")),
    (("turn", [("low", 1)]), ("turn", [("low", -1)])),
    (("turn", [("low", 1), ("high", -1), ("side", 1)]), ("turn", [("low", -1), ("high", 1), ("side", -1)])),
]


class Undone(unittest.TestCase):

    def test_each_deed(self):
        for one, other in PAIRS:
            self.assertEqual(undone(one), other)
            self.assertEqual(undone(other), one)
            self.assertIs(type(undone(one)), tuple)

    def test_undone_of_undone(self):
        for deed in [deed for pair in PAIRS for deed in pair]:
            kept = copy.deepcopy(deed)
            self.assertEqual(undone(undone(deed)), deed)
            self.assertEqual(deed, kept)

    def test_moves_are_a_list_of_their_own(self):
        moves = [("low", 1), ("high", -1)]
        told = undone(("turn", moves))
        self.assertIs(type(told[1]), list)
        told[1].append(("side", 1))
        self.assertEqual(moves, [("low", 1), ("high", -1)])
        again = undone(("turn", moves))
        moves.clear()
        self.assertEqual(again, ("turn", [("low", -1), ("high", 1)]))


class Backwards(unittest.TestCase):

    def test_no_deeds(self):
        self.assertEqual(backwards([]), [])

    def test_from_the_last_on(self):
        deeds = [("put", "low"), ("hang", "low", "tree"), ("loose", "low"), ("turn", [("low", 1), ("high", -1)])]
        kept = copy.deepcopy(deeds)
        self.assertEqual(
            backwards(deeds),
            [("turn", [("low", -1), ("high", 1)]), ("brake", "low"), ("strike", "low", "tree"), ("lift", "low")],
        )
        self.assertEqual(deeds, kept)
        self.assertEqual(backwards(backwards(deeds)), deeds)

    def test_told_lists_are_the_askers_own(self):
        deeds = [("turn", [("low", 1)])]
        told = backwards(deeds)
        told[0][1].clear()
        told.clear()
        self.assertEqual(deeds, [("turn", [("low", 1)])])
        self.assertEqual(backwards(deeds), [("turn", [("low", -1)])])

    def test_a_loft_does_them_and_each_state_comes_again(self):
        dice = dice_of(81)
        words = {}
        for number in range(100):
            loft = Loft(any_rig(dice))
            states = [loft.state()]
            for k in range(120):
                deed = any_deed(dice, loft)
                try:
                    loft.do(deed)
                except LoftError:
                    continue
                states.append(loft.state())
                words[deed[0]] = True
            done = loft.log()
            self.assertEqual(len(done), len(states) - 1)
            again = [loft.state()]
            for deed in backwards(done):
                loft.do(deed)
                again.append(loft.state())
            self.assertEqual(again, states[::-1])
            self.assertEqual(loft.log(), done + backwards(done))
        self.assertEqual(len(words), 7)


if __name__ == "__main__":
    unittest.main()
