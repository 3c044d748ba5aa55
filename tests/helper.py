"""What several test files need: rigs made from a few words, and things that must stay as they were."""

import copy
import random

from flyloft.lofts import Loft
from flyloft.rigs import Rig

LETTERS = "abcdefghijklmnop"


def bar_line(name, top=60, at=0, room=60, pull=1, slack=0, hold=0):
    return f"bar {name} {top} {at} {room} {pull} {slack} {hold}"


def one_bar(plate, weights=(), room=60, pull=1, slack=0, hold=None, drops=None):
    """A rig with the bar low and one piece a, b, c .. for each weight."""
    hold = 10 ** 15 if hold is None else hold
    drops = drops or [0] * len(weights)
    lines = [f"plate {plate}", bar_line("low", room=room, pull=pull, slack=slack, hold=hold)]
    lines += [f"piece {LETTERS[k]} {weight} {drops[k]}" for k, weight in enumerate(weights)]
    return Rig(lines)


def some_of(dice, things):
    """Any of the things, in any order."""
    return dice.sample(things, dice.randint(0, len(things)))


def refusal(case, kind, ask, *arguments):
    """The refusal of this very class with which an asking is answered; what was handed in stays as it was."""
    kept = [copy.deepcopy(each) if isinstance(each, (list, dict, tuple)) else None for each in arguments]
    try:
        answer = ask(*arguments)
    except kind as e:
        case.assertIs(type(e), kind)
        for each, before in zip(arguments, kept):
            if before is not None:
                case.assertEqual(each, before)
        return e
    return case.fail(f"{kind.__name__} is due, answered was {answer!r}")


def dice_of(seed):
    return random.Random(seed)


def any_bays(dice, ats, many):
    """Lines of bays: bars whose AT rises, some or all of them."""
    lines = []
    for number in range(many):
        rising = []
        for bar in sorted(dice.sample(sorted(ats), dice.randint(2, max(2, len(ats)))), key=lambda bar: ats[bar]):
            if not rising or ats[bar] > ats[rising[-1]]:
                rising.append(bar)
        if len(rising) > 1:
            lines.append(f"bay {LETTERS[number]} {' '.join(rising)}")
    return lines


def any_rig(dice, pieces=6, plate=(1, 12), weight=(1, 30), drop=(0, 4), slack=(0, 12), top=(6, 60)):
    """A rig of one to eight bars in any order, with bays among those that do not begin at like heights."""
    names = dice.sample(LETTERS[:8], dice.randint(1, 8))
    spread = dice.choice([8, 12, 30])
    ats, lines = {}, [f"plate {dice.randint(*plate)}"]
    for name in names:
        tall = dice.randint(*top)
        ats[name] = dice.randint(0, min(tall, spread))
        slack_of = dice.randint(*slack)
        hold = slack_of + dice.choice([0, 10, 40, 100])
        lines.append(bar_line(name, tall, ats[name], dice.choice([0, 3, 20, 60]), dice.randint(1, 2), slack_of, hold))
    for number in range(dice.randint(0, pieces)):
        lines.append(f"piece {LETTERS[number]} {dice.randint(*weight)} {dice.randint(*drop)}")
    if len(names) > 1:
        lines += any_bays(dice, ats, dice.randint(0, 4))
    return Rig(lines)


def below_of(rig, bar):
    """The bars next below this one, in all bays."""
    found = []
    for bay in rig.bays():
        bars = rig.bay(bay)
        found += [low for low, high in zip(bars, bars[1:]) if high == bar]
    return found


def is_clear(rig, heights, drops):
    if any(heights[bar] > rig.top(bar) or heights[bar] < drops[bar] for bar in rig.bars()):
        return False
    return all(heights[bar] - drops[bar] > heights[low] for bar in rig.bars() for low in below_of(rig, bar))


def any_clear(dice, rig, drops, spread):
    """Heights that are clear, each at most so much higher than it must be; None where the dice find none."""
    heights = {}
    for bar in sorted(rig.bars(), key=rig.at):
        least = max([drops[bar]] + [heights[low] + drops[bar] + 1 for low in below_of(rig, bar)])
        if least > rig.top(bar):
            return None
        heights[bar] = min(rig.top(bar), least + dice.randint(0, spread))
    return heights if is_clear(rig, heights, drops) else None


def any_deed(dice, loft):
    """Mostly deeds that might be done, some that never can be."""
    rig = loft.rig()
    bars, pieces = [*rig.bars()] * 9 + ["other"], [*rig.pieces()] * 9 + ["none"]
    word = dice.choice(["brake", "loose", "hang", "strike", "put", "put", "lift", "turn", "turn"])
    if word in ("hang", "strike"):
        return (word, dice.choice(bars), dice.choice(pieces))
    if word != "turn":
        return (word, dice.choice(bars))
    loose = [bar for bar in rig.bars() if not loft.braked(bar)]
    some = dice.sample(loose or rig.bars(), 1) if dice.randint(0, 3) else dice.sample(bars, 2)
    some = dice.sample(loose, dice.randint(1, len(loose))) if loose and dice.randint(0, 1) else some
    return ("turn", [(bar, dice.choice([1, -1])) for bar in dict.fromkeys(some)])


def any_load(dice, loft):
    """A load whose pieces are free, mostly."""
    rig = loft.rig()
    bars = dice.sample(rig.bars(), min(len(rig.bars()), dice.randint(1, 3)))
    free = loft.dock()
    dice.shuffle(free)
    rows, used = [], set()
    for bar in bars:
        wanted = free[:dice.randint(0, 2)] + some_of(dice, loft.hanging(bar))
        if not dice.randint(0, 6):
            wanted += some_of(dice, rig.pieces())
        pieces = [piece for piece in dict.fromkeys(wanted) if piece not in used]
        dice.shuffle(pieces)
        used.update(pieces)
        free = [piece for piece in free if piece not in used]
        rows.append((bar, tuple(pieces)))
    return ("load", tuple(rows))


def any_flight(dice, loft):
    """A flight to heights that are clear, mostly, in turns that are enough, mostly."""
    rig = loft.rig()
    heights = any_clear(dice, rig, loft.drops(), dice.choice([0, 2, 8])) or loft.heights()
    bars = rig.bars() if dice.randint(0, 1) else dice.sample(rig.bars(), dice.randint(1, len(rig.bars())))
    goal = {bar: heights[bar] for bar in bars}
    if not dice.randint(0, 5):
        goal[dice.choice(bars)] = dice.randint(0, 60)
    turns = dice.choice([0, 3, 20, 60, 500, 500, 500])
    return ("fly", dice.randint(1, 8), turns, tuple(goal.items()))


def any_cue(dice, loft):
    return any_load(dice, loft) if dice.randint(0, 2) else any_flight(dice, loft)


def shadow(loft):
    """Another loft in the same state."""
    other = Loft(loft.rig())
    for deed in loft.log():
        other.do(deed)
    return other


def is_safe(loft):
    """What point 3 says of every moment."""
    rig = loft.rig()
    for bar in rig.bars():
        pull = rig.pull(bar) * sum(rig.weight(piece) for piece in loft.hanging(bar))
        bound = rig.hold(bar) if loft.braked(bar) else rig.slack(bar)
        if abs(pull - loft.plates(bar) * rig.plate()) > bound:
            return False
    drops = {bar: max([0] + [rig.drop(piece) for piece in loft.hanging(bar)]) for bar in rig.bars()}
    return is_clear(rig, loft.heights(), drops)


def balancing(rig, bar, pieces):
    """The numbers of plates that balance the bar, tried one by one."""
    pull = rig.pull(bar) * sum(rig.weight(piece) for piece in pieces)
    return [count for count in range(rig.room(bar) + 1) if abs(pull - count * rig.plate()) <= rig.slack(bar)]
