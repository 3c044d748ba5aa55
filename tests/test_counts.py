"""Point 7: the counts of a bar for some pieces, and Unbalanced."""

import unittest

from flyloft.counts import counts_of, is_balanced
from flyloft.errors import Unbalanced
from helper import dice_of, one_bar, refusal, some_of

TRILLION = 10 ** 12


def slack_needed(rig, pieces):
    """The least slack with which some number of plates, in the room or not, would do: tried number by number."""
    pull = rig.pull("low") * sum(rig.weight(piece) for piece in pieces)
    beyond = pull // rig.plate() + 2
    # The numbers on either side of the pull are among these; those far below it are farther off.
    return min(abs(pull - number * rig.plate()) for number in range(max(0, beyond - 5), beyond))


def least_beyond(rig, pieces):
    number = 0
    while not is_balanced(rig, "low", pieces, number):
        number += 1
    return number


class Case(unittest.TestCase):

    def refuses(self, rig, pieces, why, lacks):
        e = refusal(self, Unbalanced, counts_of, rig, "low", pieces)
        self.assertEqual((e.bar, e.why, e.lacks), ("low", why, lacks))
        self.assertIs(type(e.lacks), int)

    def tells(self, rig, pieces, stretch):
        told = counts_of(rig, "low", pieces)
        self.assertIs(type(told), tuple)
        self.assertEqual(told, stretch)
        self.assertEqual([type(count) for count in told], [int, int])


class Stretches(Case):

    def test_some(self):
        self.tells(one_bar(10, [50], slack=10), ["a"], (4, 6))
        self.tells(one_bar(10, [50], slack=9), ["a"], (5, 5))
        self.tells(one_bar(10, [50], slack=19), ["a"], (4, 6))
        self.tells(one_bar(10, [50], slack=20), ["a"], (3, 7))
        self.tells(one_bar(10, [50, 3], pull=2, slack=6), ["b", "a"], (10, 11))

    def test_of_one_count(self):
        self.tells(one_bar(10, [50]), ["a"], (5, 5))
        self.tells(one_bar(10, [52], slack=2), ["a"], (5, 5))
        self.tells(one_bar(10, [48], slack=2), ["a"], (5, 5))

    def test_from_nought(self):
        self.tells(one_bar(10, [5], slack=5), ["a"], (0, 1))
        self.tells(one_bar(10, [5], slack=4 + 1), ["a"], (0, 1))
        self.tells(one_bar(10, [5], slack=100), ["a"], (0, 10))
        self.tells(one_bar(10, [3], slack=3), ["a"], (0, 0))
        self.tells(one_bar(100, [3], slack=3), ["a"], (0, 0))

    def test_up_to_the_room(self):
        self.tells(one_bar(10, [50], slack=10, room=6), ["a"], (4, 6))
        self.tells(one_bar(10, [50], slack=10, room=5), ["a"], (4, 5))
        self.tells(one_bar(10, [50], slack=10, room=4), ["a"], (4, 4))
        self.tells(one_bar(1, [50], slack=10 ** 15, room=60), ["a"], (0, 60))

    def test_no_pieces(self):
        self.tells(one_bar(10), [], (0, 0))
        self.tells(one_bar(10, slack=9), [], (0, 0))
        self.tells(one_bar(10, slack=10), [], (0, 1))
        self.tells(one_bar(10, slack=35), [], (0, 3))
        self.tells(one_bar(10, slack=35, room=2), [], (0, 2))

    def test_a_room_of_nought(self):
        self.tells(one_bar(10, room=0), [], (0, 0))
        self.tells(one_bar(10, slack=1000, room=0), [], (0, 0))
        self.tells(one_bar(10, [7], slack=7, room=0), ["a"], (0, 0))

    def test_great_pulls(self):
        weights = [TRILLION] * 12
        rig = one_bar(TRILLION, weights, pull=2)
        self.tells(rig, rig.pieces(), (24, 24))
        rig = one_bar(4 * TRILLION // 10, weights, pull=2, slack=4 * TRILLION // 10)
        self.tells(rig, rig.pieces(), (59, 60))
        rig = one_bar(1, weights, pull=2, slack=24 * TRILLION - 60)
        self.tells(rig, rig.pieces(), (60, 60))
        rig = one_bar(1, weights, pull=2, slack=24 * TRILLION)
        self.tells(rig, rig.pieces(), (0, 60))


class Refused(Case):

    def test_plate_where_the_nearest_lies_below(self):
        self.refuses(one_bar(10, [52], slack=1), ["a"], "plate", 1)
        self.refuses(one_bar(10, [53], slack=0), ["a"], "plate", 3)
        self.refuses(one_bar(10, [3], slack=2), ["a"], "plate", 1)

    def test_plate_where_the_nearest_lies_above(self):
        self.refuses(one_bar(10, [58], slack=1), ["a"], "plate", 1)
        self.refuses(one_bar(10, [57], slack=0), ["a"], "plate", 3)
        self.refuses(one_bar(10, [9], slack=0), ["a"], "plate", 1)

    def test_plate_where_two_lie_as_near(self):
        self.refuses(one_bar(10, [55], slack=4), ["a"], "plate", 1)
        self.refuses(one_bar(10, [5], slack=0), ["a"], "plate", 5)

    def test_what_lacks_in_the_slack_is_just_enough(self):
        for weight in range(1, 40):
            rig = one_bar(10, [weight], pull=2)
            needed = slack_needed(rig, ["a"])
            if needed:
                self.refuses(rig, ["a"], "plate", needed)
                self.refuses(one_bar(10, [weight], pull=2, slack=needed - 1), ["a"], "plate", 1)
            counts_of(one_bar(10, [weight], pull=2, slack=needed), "low", ["a"])

    def test_room(self):
        self.refuses(one_bar(10, [50], slack=10, room=3), ["a"], "room", 1)
        self.refuses(one_bar(10, [50], slack=10, room=0), ["a"], "room", 4)
        self.refuses(one_bar(10, [50], slack=0, room=4), ["a"], "room", 1)
        self.refuses(one_bar(1, [TRILLION], slack=0, room=60), ["a"], "room", TRILLION - 60)

    def test_plate_goes_ahead_of_room(self):
        self.refuses(one_bar(10, [55], slack=4, room=0), ["a"], "plate", 1)
        self.refuses(one_bar(10, [55], slack=4, room=3), ["a"], "plate", 1)
        self.refuses(one_bar(10, [55], slack=5, room=3), ["a"], "room", 2)

    def test_great_pulls(self):
        weights = [TRILLION] * 11 + [TRILLION - 1]
        rig = one_bar(TRILLION, weights, pull=2, slack=1)
        self.refuses(rig, rig.pieces(), "plate", 1)
        rig = one_bar(TRILLION, weights, pull=2, slack=2, room=20)
        self.refuses(rig, rig.pieces(), "room", 4)
        rig = one_bar(1, [TRILLION] * 12, pull=2, slack=0)
        self.refuses(rig, rig.pieces(), "room", 24 * TRILLION - 60)


class Tried(Case):

    def held_against_each_number(self, rig, pieces):
        room = rig.room("low")
        fit = [number for number in range(room + 1) if is_balanced(rig, "low", pieces, number)]
        if fit:
            self.assertEqual(fit, list(range(fit[0], fit[-1] + 1)))
            self.tells(rig, pieces, (fit[0], fit[-1]))
        elif slack_needed(rig, pieces) > rig.slack("low"):
            self.refuses(rig, pieces, "plate", slack_needed(rig, pieces) - rig.slack("low"))
        else:
            self.refuses(rig, pieces, "room", least_beyond(rig, pieces) - room)

    def test_all_small_ones(self):
        for plate in range(1, 8):
            for slack in range(9):
                for weight in range(1, 12):
                    for room in (0, 1, 3, 60):
                        rig = one_bar(plate, [weight], room=room, slack=slack, pull=1 + room // 2 % 2)
                        self.held_against_each_number(rig, ["a"])
                        self.held_against_each_number(rig, [])

    def test_many(self):
        dice = dice_of(7)
        for number in range(1500):
            great = 10 ** dice.randint(1, 12)
            plate = dice.randint(1, great)
            weights = [dice.randint(1, great) for k in range(dice.randint(0, 12))]
            slack = dice.choice([0, dice.randint(0, plate), plate, dice.randint(0, 10 * plate)])
            rig = one_bar(plate, weights, room=dice.randint(0, 60), pull=dice.randint(1, 2), slack=slack)
            pieces = some_of(dice, rig.pieces())
            pull = rig.pull("low") * sum(rig.weight(piece) for piece in pieces)
            if pull < 10000 * plate:
                self.held_against_each_number(rig, pieces)

    def test_lists_stay_as_they_were(self):
        rig = one_bar(10, [20, 30, 40], slack=5)
        pieces = ["c", "a"]
        counts_of(rig, "low", pieces)
        self.assertEqual(pieces, ["c", "a"])


if __name__ == "__main__":
    unittest.main()
