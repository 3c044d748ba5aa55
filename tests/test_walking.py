"""Point 11: deeds walked, Misdeed, the strain of leans."""

import unittest

from flyloft.errors import Misdeed
from flyloft.loading import order
from flyloft.walking import strain, walked
from helper import dice_of, one_bar, refusal, some_of

HANG = ("hang", "low", "a")
STRIKE = ("strike", "low", "a")
PUT = ("put", "low")
LIFT = ("lift", "low")


class Walked(unittest.TestCase):

    def tells(self, rig, pieces, plates, deeds, leans):
        told = walked(rig, "low", pieces, plates, deeds)
        self.assertIs(type(told), list)
        self.assertEqual(told, leans)

    def refuses(self, rig, pieces, plates, deeds, number, why):
        e = refusal(self, Misdeed, walked, rig, "low", pieces, plates, deeds)
        self.assertEqual((e.number, e.why), (number, why))
        self.assertIs(type(e.number), int)

    def test_no_deeds(self):
        rig = one_bar(10, [50], hold=5)
        self.tells(rig, [], 0, [], [])
        self.tells(rig, ["a"], 0, [], [])
        self.tells(rig, [], 1000, [], [])

    def test_each_of_the_four(self):
        rig = one_bar(10, [50])
        self.tells(rig, [], 0, [HANG], [50])
        self.tells(rig, ["a"], 2, [STRIKE], [-20])
        self.tells(rig, ["a"], 0, [PUT], [40])
        self.tells(rig, ["a"], 7, [LIFT], [-10])

    def test_several(self):
        rig = one_bar(10, [25, 7], pull=2)
        deeds = [PUT, PUT, HANG, ("hang", "low", "b"), PUT, STRIKE, LIFT, HANG]
        self.tells(rig, [], 0, deeds, [-10, -20, 30, 44, 34, -16, -6, 44])
        self.tells(rig, ["b"], 3, [("strike", "low", "b"), ("hang", "low", "b"), HANG], [-30, -16, 34])

    def test_a_piece_hung_that_hangs_there(self):
        rig = one_bar(10, [50, 7])
        self.refuses(rig, ["a"], 0, [HANG], 0, "piece")
        self.refuses(rig, ["b", "a"], 0, [PUT, HANG], 1, "piece")
        self.refuses(rig, [], 0, [HANG, PUT, HANG], 2, "piece")

    def test_a_piece_struck_that_does_not(self):
        rig = one_bar(10, [50, 7])
        self.refuses(rig, [], 0, [STRIKE], 0, "piece")
        self.refuses(rig, ["b"], 0, [PUT, STRIKE], 1, "piece")
        self.refuses(rig, ["a"], 0, [STRIKE, STRIKE], 1, "piece")

    def test_a_plate_put_beyond_the_room(self):
        rig = one_bar(10, [50], room=2)
        self.tells(rig, [], 0, [PUT, PUT], [-10, -20])
        self.refuses(rig, [], 0, [PUT, PUT, PUT], 2, "plate")
        self.refuses(rig, [], 2, [PUT], 0, "plate")
        self.tells(rig, [], 2, [LIFT, PUT], [-10, -20])
        self.refuses(one_bar(10, [50], room=0), [], 0, [PUT], 0, "plate")

    def test_a_plate_lifted_where_there_is_none(self):
        rig = one_bar(10, [50])
        self.refuses(rig, [], 0, [LIFT], 0, "plate")
        self.refuses(rig, ["a"], 1, [LIFT, LIFT], 1, "plate")
        self.tells(rig, [], 1, [LIFT], [0])

    def test_counts_above_the_room_at_the_beginning(self):
        rig = one_bar(10, [50], room=2)
        self.tells(rig, ["a"], 5, [LIFT, LIFT], [10, 20])
        self.refuses(rig, ["a"], 5, [PUT], 0, "plate")
        self.refuses(rig, ["a"], 4, [LIFT, PUT], 1, "plate")
        self.refuses(rig, ["a"], 4, [LIFT, LIFT, PUT], 2, "plate")
        self.tells(rig, ["a"], 4, [LIFT, LIFT, LIFT, PUT], [20, 30, 40, 30])
        self.tells(rig, [], 1000, [LIFT], [-9990])

    def test_not_held(self):
        rig = one_bar(10, [20, 21], hold=20)
        self.tells(rig, [], 0, [HANG], [20])
        self.refuses(rig, [], 0, [("hang", "low", "b")], 0, "hold")
        self.tells(rig, [], 0, [PUT, PUT], [-10, -20])
        self.refuses(rig, [], 0, [PUT, PUT, PUT], 2, "hold")
        self.refuses(rig, ["a"], 2, [LIFT, LIFT, STRIKE, PUT, PUT, HANG, ("hang", "low", "b")], 6, "hold")
        self.refuses(rig, ["a"], 3, [STRIKE], 0, "hold")
        self.tells(rig, ["a"], 2, [STRIKE], [-20])
        self.refuses(rig, ["b"], 1, [LIFT], 0, "hold")

    def test_how_it_was_ahead_of_the_first_is_not_asked(self):
        rig = one_bar(10, [50], hold=20)
        self.tells(rig, [], 3, [LIFT], [-20])
        self.tells(rig, [], 5, [HANG], [0])
        self.tells(rig, ["a"], 0, [STRIKE], [0])
        self.tells(rig, ["a"], 2, [PUT], [20])
        self.refuses(rig, ["a"], 1, [PUT], 0, "hold")
        self.refuses(rig, [], 4, [LIFT, LIFT], 0, "hold")

    def test_the_first_that_is_due(self):
        rig = one_bar(10, [50], room=0, hold=0)
        self.refuses(rig, ["a"], 0, [HANG], 0, "piece")
        self.refuses(rig, [], 9, [STRIKE], 0, "piece")
        self.refuses(rig, [], 0, [PUT], 0, "plate")
        self.refuses(rig, ["a"], 0, [LIFT], 0, "plate")
        self.refuses(rig, [], 0, [HANG, HANG], 0, "hold")
        self.refuses(rig, [], 0, [PUT, STRIKE], 0, "plate")

    def test_a_hold_of_nought(self):
        rig = one_bar(10, [10], hold=0)
        self.refuses(rig, ["a"], 1, [LIFT], 0, "hold")
        self.tells(rig, [], 1, [HANG], [0])

    def test_orders_can_be_walked(self):
        dice = dice_of(31)
        for number in range(200):
            weights = [dice.randint(1, 20) for k in range(12)]
            rig = one_bar(dice.randint(1, 20), weights, pull=dice.randint(1, 2), hold=1300)
            pieces, goal = some_of(dice, rig.pieces()), some_of(dice, rig.pieces())
            plates, count = dice.randint(0, 60), dice.randint(0, 60)
            deeds = order(rig, "low", pieces, plates, goal, count)
            leans = walked(rig, "low", pieces, plates, deeds)
            self.assertEqual(len(leans), len(deeds))
            if leans:
                last = rig.pull("low") * sum(rig.weight(piece) for piece in goal) - count * rig.plate()
                self.assertEqual(leans[-1], last)

    def test_lists_stay_as_they_were_and_told_ones_are_the_askers_own(self):
        rig = one_bar(10, [50, 7])
        pieces, deeds = ["b"], [HANG, PUT, ("strike", "low", "b")]
        first = walked(rig, "low", pieces, 0, deeds)
        self.assertEqual((pieces, deeds), (["b"], [HANG, PUT, ("strike", "low", "b")]))
        kept = list(first)
        first.append(0)
        self.assertEqual(walked(rig, "low", pieces, 0, deeds), kept)


class Strain(unittest.TestCase):

    def tells(self, leans, pair):
        kept = list(leans)
        told = strain(leans)
        self.assertIs(type(told), tuple)
        self.assertEqual(told, pair)
        self.assertEqual(leans, kept)

    def test_no_leans(self):
        self.tells([], (0, 0))

    def test_all_above(self):
        self.tells([5], (0, 5))
        self.tells([3, 9, 1], (0, 9))

    def test_all_below(self):
        self.tells([-5], (-5, 0))
        self.tells([-3, -9, -1], (-9, 0))

    def test_both(self):
        self.tells([3, -9, 0, 4, -2], (-9, 4))
        self.tells([0], (0, 0))
        self.tells([10 ** 59, -(10 ** 59)], (-(10 ** 59), 10 ** 59))


if __name__ == "__main__":
    unittest.main()
