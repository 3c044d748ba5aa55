"""What several test files need: rigs made from a few words, and things that must stay as they were."""

import copy
import random

from flyloft.rigs import Rig

LETTERS = "abcdefghijklmnop"


def bar_line(name, top=60, at=0, room=60, pull=1, slack=0, hold=0):
    return f"bar {name} {top} {at} {room} {pull} {slack} {hold}"


def one_bar(plate, weights=(), room=60, pull=1, slack=0, hold=None, drops=None):
    """A rig with the bar low and one piece a, b, c .. for each weight."""
    hold = 10 ** 15 if hold is None else hold
    drops = drops or [0] * len(weights)
    lines = [f"plate {plate}", bar_line("low", room=room, pull=pull, slack=slack, hold=hold)]
    lines += [f"piece {LETTERS[k]} {weight} {drops[k]}" for k, weight in enumerate(weights)]
    return Rig(lines)


def some_of(dice, things):
    """Any of the things, in any order."""
    return dice.sample(things, dice.randint(0, len(things)))


def refusal(case, kind, ask, *arguments):
    """The refusal of this very class with which an asking is answered; what was handed in stays as it was."""
    kept = [copy.deepcopy(each) if isinstance(each, (list, dict, tuple)) else None for each in arguments]
    try:
        answer = ask(*arguments)
    except kind as e:
        case.assertIs(type(e), kind)
        for each, before in zip(arguments, kept):
            if before is not None:
                case.assertEqual(each, before)
        return e
    return case.fail(f"{kind.__name__} is due, answered was {answer!r}")


def dice_of(seed):
    return random.Random(seed)
