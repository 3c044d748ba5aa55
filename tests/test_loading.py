"""Point 10: orders on a braked bar, and what refuses one."""

import copy
import unittest

from flyloft.errors import TooHeavy, Unheld
from flyloft.loading import order
from helper import dice_of, one_bar, refusal, some_of

TRILLION = 10 ** 12


def lean(rig, pieces, plates):
    return rig.pull("low") * sum(rig.weight(piece) for piece in pieces) - plates * rig.plate()


def greatest_bound(rig, pieces, plates, goal, count):
    """The least hold with which there is an order."""
    moved = [rig.pull("low") * rig.weight(piece) for piece in set(pieces) ^ set(goal)]
    moved += [rig.plate()] if plates != count else []
    return max([abs(lean(rig, pieces, plates)), abs(lean(rig, goal, count)), *moved])


def first_due(rig, pieces, plates, goal, count):
    for piece in [each for each in goal if each not in pieces] + [each for each in pieces if each not in goal]:
        if rig.pull("low") * rig.weight(piece) > rig.hold("low"):
            return ("heavy", piece)
    if plates != count and rig.plate() > rig.hold("low"):
        return ("heavy", None)
    for some, number in ((pieces, plates), (goal, count)):
        if abs(lean(rig, some, number)) > rig.hold("low"):
            return ("unheld", abs(lean(rig, some, number)) - rig.hold("low"))
    return ("none", None)


class Case(unittest.TestCase):

    def leads(self, rig, pieces, plates, goal, count):
        """Walks the order deed by deed, by the words of the document alone."""
        kept = copy.deepcopy((pieces, goal))
        deeds = order(rig, "low", pieces, plates, goal, count)
        self.assertIs(type(deeds), list)
        self.assertEqual((pieces, goal), kept)
        hanging, plates_on = list(pieces), plates
        for deed in deeds:
            self.assertIs(type(deed), tuple)
            self.assertEqual(deed[1], "low")
            if deed[0] == "hang":
                self.assertNotIn(deed[2], hanging)
                hanging.append(deed[2])
            elif deed[0] == "strike":
                self.assertIn(deed[2], hanging)
                hanging.remove(deed[2])
            else:
                self.assertIn(deed, [("put", "low"), ("lift", "low")])
                plates_on += 1 if deed[0] == "put" else -1
            self.assertTrue(0 <= plates_on <= rig.room("low"))
            self.assertLessEqual(abs(lean(rig, hanging, plates_on)), rig.hold("low"))
        self.assertEqual((sorted(hanging), plates_on), (sorted(goal), count))
        self.moves_nothing_else(deeds, pieces, plates, goal, count)
        return deeds

    def moves_nothing_else(self, deeds, pieces, plates, goal, count):
        wanted = [("hang", "low", piece) for piece in goal if piece not in pieces]
        wanted += [("strike", "low", piece) for piece in pieces if piece not in goal]
        wanted += [("put", "low")] * (count - plates) + [("lift", "low")] * (plates - count)
        self.assertEqual(sorted(deeds), sorted(wanted))


class Orders(Case):

    def test_nothing_to_do(self):
        rig = one_bar(10, [50, 7])
        self.assertEqual(order(rig, "low", [], 0, [], 0), [])
        self.assertEqual(order(rig, "low", ["a", "b"], 5, ["b", "a"], 5), [])

    def test_one_deed(self):
        rig = one_bar(10, [50, 7])
        self.assertEqual(order(rig, "low", [], 0, ["a"], 0), [("hang", "low", "a")])
        self.assertEqual(order(rig, "low", ["a"], 0, [], 0), [("strike", "low", "a")])
        self.assertEqual(order(rig, "low", [], 0, [], 1), [("put", "low")])
        self.assertEqual(order(rig, "low", [], 1, [], 0), [("lift", "low")])

    def test_a_tight_hold(self):
        rig = one_bar(10, [10, 10, 10], hold=10)
        self.leads(rig, [], 0, ["a", "b", "c"], 3)
        self.leads(rig, ["a", "b", "c"], 3, [], 0)
        self.leads(rig, ["a"], 2, ["b", "c"], 1)
        self.leads(rig, ["a", "b"], 1, ["c"], 2)
        self.leads(rig, ["c", "b", "a"], 4, ["a", "c", "b"], 2)

    def test_a_hold_of_nought_with_nothing_to_do(self):
        rig = one_bar(10, [10], hold=0)
        self.assertEqual(order(rig, "low", ["a"], 1, ["a"], 1), [])
        self.assertEqual(order(rig, "low", [], 0, [], 0), [])

    def test_leans_of_either_sign_at_both_ends(self):
        rig = one_bar(10, [30, 30, 5], hold=30)
        for pieces, plates in ((["a"], 0), (["a"], 6), (["a"], 3), (["a", "c"], 2)):
            for goal, count in ((["b"], 0), (["b"], 6), (["b"], 3), (["c", "b"], 6), ([], 3), (["a", "b", "c"], 9)):
                self.leads(rig, pieces, plates, goal, count)

    def test_twelve_pieces_and_sixty_plates(self):
        rig = one_bar(TRILLION, [5 * TRILLION // 10] * 12, pull=2, hold=TRILLION)
        self.leads(rig, [], 0, rig.pieces(), 12)
        self.leads(rig, rig.pieces(), 13, [], 1)
        rig = one_bar(2 * TRILLION // 5, [TRILLION] * 12, pull=2, hold=2 * TRILLION)
        self.assertEqual(len(self.leads(rig, [], 0, rig.pieces(), 60)), 72)
        self.leads(rig, rig.pieces(), 60, [], 5)
        self.leads(rig, rig.pieces()[:6], 30, rig.pieces()[6:], 35)

    def test_the_hold_just_as_great_as_it_must_be(self):
        dice = dice_of(21)
        refused = 0
        for number in range(3000):
            many = dice.randint(0, 12)
            weights = [dice.randint(1, dice.choice([9, 40])) for k in range(many)]
            pull, plate = dice.randint(1, 2), dice.randint(1, 30)
            loose = one_bar(plate, weights, pull=pull)
            pieces, goal = some_of(dice, loose.pieces()), some_of(dice, loose.pieces())
            plates = min(60, max(0, lean(loose, pieces, 0) // plate + dice.randint(-2, 2)))
            count = min(60, max(0, lean(loose, goal, 0) // plate + dice.randint(-2, 2)))
            bound = greatest_bound(loose, pieces, plates, goal, count)
            self.leads(loose, pieces, plates, goal, count)
            self.leads(one_bar(plate, weights, pull=pull, hold=bound), pieces, plates, goal, count)
            self.leads(one_bar(plate, weights, pull=pull, hold=bound + 1), pieces, plates, goal, count)
            if bound > 0:
                tight = one_bar(plate, weights, pull=pull, hold=bound - 1)
                with self.assertRaises((TooHeavy, Unheld)):
                    order(tight, "low", pieces, plates, goal, count)
                refused += 1
        self.assertGreater(refused, 2000)

    def test_great_weights(self):
        dice = dice_of(22)
        for number in range(300):
            weights = [dice.randint(1, TRILLION) for k in range(12)]
            rig = one_bar(dice.randint(TRILLION // 5, TRILLION), weights, pull=2, hold=10 ** 15)
            pieces, goal = some_of(dice, rig.pieces()), some_of(dice, rig.pieces())
            plates, count = dice.randint(0, 60), dice.randint(0, 60)
            bound = greatest_bound(rig, pieces, plates, goal, count)
            tight = one_bar(rig.plate(), weights, pull=2, hold=bound)
            self.leads(tight, pieces, plates, goal, count)

    def test_a_told_order_is_the_askers_own(self):
        rig = one_bar(10, [50])
        first = order(rig, "low", [], 0, ["a"], 5)
        kept = list(first)
        first.clear()
        self.assertEqual(order(rig, "low", [], 0, ["a"], 5), kept)


class Refused(Case):

    def too_heavy(self, rig, pieces, plates, goal, count, what):
        e = refusal(self, TooHeavy, order, rig, "low", pieces, plates, goal, count)
        self.assertEqual((e.bar, e.what), ("low", what))

    def unheld(self, rig, pieces, plates, goal, count, over):
        e = refusal(self, Unheld, order, rig, "low", pieces, plates, goal, count)
        self.assertEqual((e.bar, e.over), ("low", over))
        self.assertIs(type(e.over), int)

    def test_a_piece_to_be_hung(self):
        self.too_heavy(one_bar(10, [21], hold=20), [], 0, ["a"], 2, "a")
        self.leads(one_bar(10, [20], hold=20), [], 0, ["a"], 2)
        self.leads(one_bar(10, [19], hold=20), [], 0, ["a"], 2)
        self.too_heavy(one_bar(10, [11], pull=2, hold=20), [], 0, ["a"], 2, "a")
        self.leads(one_bar(10, [10], pull=2, hold=20), [], 0, ["a"], 2)

    def test_a_piece_to_be_struck(self):
        self.too_heavy(one_bar(10, [21], hold=20), ["a"], 2, [], 0, "a")
        self.leads(one_bar(10, [20], hold=20), ["a"], 2, [], 0)
        self.too_heavy(one_bar(10, [11], pull=2, hold=20), ["a"], 2, [], 0, "a")

    def test_a_piece_that_stays_is_not_asked(self):
        rig = one_bar(10, [500, 10], hold=20)
        self.leads(rig, ["a"], 50, ["b", "a"], 51)
        self.leads(rig, ["a", "b"], 51, ["a"], 50)
        self.leads(rig, ["a"], 48, ["a"], 52)

    def test_the_first_to_be_hung_in_the_order_of_the_goal(self):
        rig = one_bar(10, [30, 40, 50, 5], hold=20)
        self.too_heavy(rig, [], 0, ["c", "a", "b"], 12, "c")
        self.too_heavy(rig, [], 0, ["d", "b", "a", "c"], 12, "b")
        self.too_heavy(rig, ["b"], 4, ["b", "c", "a"], 12, "c")

    def test_those_to_be_hung_ahead_of_those_to_be_struck(self):
        rig = one_bar(10, [30, 40, 50, 60], hold=20)
        self.too_heavy(rig, ["a", "b"], 7, ["d", "c"], 11, "d")
        self.too_heavy(rig, ["a"], 3, ["a", "b"], 7, "b")

    def test_those_to_be_struck_in_the_order_of_what_hangs(self):
        rig = one_bar(10, [30, 40, 50, 5], hold=20)
        self.too_heavy(rig, ["c", "a", "b"], 12, [], 0, "c")
        self.too_heavy(rig, ["d", "b", "c", "a"], 12, ["c"], 5, "b")
        self.too_heavy(rig, ["a", "b"], 7, ["d", "b"], 4, "a")

    def test_a_plate(self):
        rig = one_bar(21, [21, 20], hold=20)
        self.too_heavy(rig, [], 0, [], 1, None)
        self.too_heavy(rig, [], 1, [], 0, None)
        self.too_heavy(rig, ["b"], 0, ["b"], 1, None)
        self.leads(one_bar(20, [20], hold=20), [], 0, ["a"], 1)
        self.leads(one_bar(20, [20], hold=20), ["a"], 1, [], 0)

    def test_a_plate_is_not_asked_where_their_number_stays(self):
        rig = one_bar(21, [20, 19, 21], hold=20)
        self.leads(rig, [], 0, ["a"], 0)
        self.leads(rig, ["c"], 1, ["a", "c"], 1)
        self.leads(rig, ["c", "b"], 1, ["a", "c"], 1)

    def test_not_held_at_the_beginning(self):
        rig = one_bar(10, [15, 10], hold=20)
        self.unheld(rig, ["a", "b"], 0, [], 0, 5)
        self.unheld(rig, [], 3, [], 0, 10)
        self.unheld(rig, [], 3, [], 3, 10)
        self.unheld(one_bar(10, [7, 8, 6], hold=20), ["b", "c", "a"], 0, ["a"], 0, 1)
        self.leads(one_bar(10, [7, 7, 6], hold=20), ["b", "c", "a"], 0, ["a"], 0)
        self.leads(one_bar(10, [7], hold=20), [], 2, ["a"], 0)

    def test_not_held_in_the_end(self):
        rig = one_bar(10, [15, 10], hold=20)
        self.unheld(rig, [], 0, ["b", "a"], 0, 5)
        self.unheld(rig, [], 0, [], 3, 10)
        self.unheld(one_bar(10, [7, 8, 6], hold=20), ["a"], 0, ["b", "c", "a"], 0, 1)
        self.leads(one_bar(10, [7, 7, 6], hold=20), ["a"], 0, ["b", "c", "a"], 0)

    def test_the_beginning_goes_ahead_of_the_end(self):
        rig = one_bar(10, [15, 10], hold=20)
        self.unheld(rig, ["a", "b"], 0, [], 4, 5)
        self.unheld(rig, [], 4, ["a", "b"], 0, 20)

    def test_a_pull_of_two(self):
        rig = one_bar(10, [8, 8], pull=2, hold=20)
        self.unheld(rig, ["a", "b"], 1, [], 0, 2)
        self.unheld(rig, [], 0, ["a", "b"], 0, 12)

    def test_several_at_once(self):
        rig = one_bar(30, [40, 50, 5], hold=20)
        self.too_heavy(rig, ["a"], 9, ["b"], 0, "b")
        self.too_heavy(rig, ["a"], 9, [], 0, "a")
        self.too_heavy(rig, ["a"], 9, ["a", "c"], 0, None)
        self.unheld(rig, ["a"], 9, ["a", "c"], 9, 210)
        self.leads(rig, ["a"], 2, ["a"], 2)
        self.too_heavy(rig, ["a"], 2, ["a"], 9, None)

    def test_the_first_due_of_any(self):
        dice = dice_of(23)
        grounds = {}
        for number in range(4000):
            weights = [dice.randint(1, 9) for k in range(dice.randint(0, 5))]
            rig = one_bar(dice.randint(1, 9), weights, pull=dice.randint(1, 2), hold=dice.randint(0, 14))
            pieces, goal = some_of(dice, rig.pieces()), some_of(dice, rig.pieces())
            plates, count = dice.randint(0, 9), dice.randint(0, 9)
            ground, told = first_due(rig, pieces, plates, goal, count)
            grounds[ground] = grounds.get(ground, 0) + 1
            if ground == "heavy":
                self.too_heavy(rig, pieces, plates, goal, count, told)
            elif ground == "unheld":
                self.unheld(rig, pieces, plates, goal, count, told)
            else:
                self.leads(rig, pieces, plates, goal, count)
        self.assertGreater(min(grounds["heavy"], grounds["unheld"], grounds["none"]), 300)


if __name__ == "__main__":
    unittest.main()
