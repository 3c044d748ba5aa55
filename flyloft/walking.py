"""Deeds on a braked bar, walked one by one, and the leans behind them."""

from flyloft.counts import is_held
from flyloft.errors import Misdeed
from flyloft.leans import lean_of


def walked(rig, bar, pieces, plates, deeds):
    leans = []
    hanging = pieces
    count = plates
    for number, deed in enumerate(deeds):
        if not has_piece_right(hanging, deed):
            raise Misdeed(number, "piece")
        if not has_plate_right(rig, bar, count, deed):
            raise Misdeed(number, "plate")
        hanging = pieces_behind(hanging, deed)
        count = plates_behind(count, deed)
        if not is_held(rig, bar, hanging, count):
            raise Misdeed(number, "hold")
        leans.append(lean_of(rig, bar, hanging, count))
    return leans


def strain(leans):
    return (min([0] + leans), max([0] + leans))


def has_piece_right(pieces, deed):
    if deed[0] == "hang":
        return deed[2] not in pieces
    if deed[0] == "strike":
        return deed[2] in pieces
    return True


def has_plate_right(rig, bar, plates, deed):
    if deed[0] == "put":
        return plates < rig.room(bar)
    if deed[0] == "lift":
        return plates > 0
    return True


def pieces_behind(pieces, deed):
    if deed[0] == "hang":
        return pieces + [deed[2]]
    if deed[0] == "strike":
        return [piece for piece in pieces if piece != deed[2]]
    return pieces


def plates_behind(plates, deed):
    if deed[0] == "put":
        return plates + 1
    if deed[0] == "lift":
        return plates - 1
    return plates
