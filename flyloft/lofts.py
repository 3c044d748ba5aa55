"""Lofts: the bars of a rig with what is on them, doing deed after deed and refusing what is not safe."""

from flyloft.bays import ask_clear
from flyloft.counts import ask_held
from flyloft.errors import Braked, Leaning, Loose, NoName, NoPlate, NoRoom, NotThere, Taken
from flyloft.leans import drop_of, lean_of
from flyloft.logs import copy_of
from flyloft.rigs import facts_of
from flyloft.turns import turned
from flyloft.walking import has_plate_right, pieces_behind, plates_behind


class Loft:

    def __init__(self, rig):
        self.kept_rig = rig
        self.height_by_bar = {}
        self.plates_by_bar = {}
        self.brake_by_bar = {}
        for bar in rig.bars():
            self.height_by_bar[bar] = rig.at(bar)
            self.plates_by_bar[bar] = 0
            self.brake_by_bar[bar] = True
        # A piece that is not in here is in the dock.
        self.bar_by_piece = {}
        self.deeds_done = []

    def do(self, deed):
        ask_names(self.kept_rig, deed)
        if deed[0] == "turn":
            self.do_turn(deed[1])
        elif deed[0] == "brake":
            self.do_brake(deed[1])
        elif deed[0] == "loose":
            self.do_loose(deed[1])
        else:
            self.do_load(deed)
        self.deeds_done.append(copy_of(deed))

    def do_brake(self, bar):
        if self.braked(bar):
            raise Braked(bar)
        self.brake_by_bar[bar] = True

    def do_loose(self, bar):
        if not self.braked(bar):
            raise Loose(bar)
        over = abs(self.lean(bar)) - self.kept_rig.slack(bar)
        if over > 0:
            raise Leaning(bar, over)
        self.brake_by_bar[bar] = False

    def do_turn(self, moves):
        for bar, step in moves:
            if self.braked(bar):
                raise Braked(bar)
        self.height_by_bar = turned(self.kept_rig, self.heights(), self.drops(), moves)

    def do_load(self, deed):
        bar = deed[1]
        if not self.braked(bar):
            raise Loose(bar)
        self.ask_piece(deed)
        self.ask_plate(deed)
        pieces = pieces_behind(self.hanging(bar), deed)
        plates = plates_behind(self.plates(bar), deed)
        ask_held(self.kept_rig, bar, pieces, plates)
        if deed[0] == "hang":
            drops = self.drops()
            drops[bar] = drop_of(self.kept_rig, pieces)
            ask_clear(self.kept_rig, self.heights(), drops)
            self.bar_by_piece[deed[2]] = bar
        elif deed[0] == "strike":
            self.bar_by_piece.pop(deed[2])
        self.plates_by_bar[bar] = plates

    def ask_piece(self, deed):
        if deed[0] == "hang" and deed[2] in self.bar_by_piece:
            raise Taken(deed[2], self.bar_by_piece[deed[2]])
        if deed[0] == "strike" and self.bar_by_piece.get(deed[2]) != deed[1]:
            raise NotThere(deed[1], deed[2])

    def ask_plate(self, deed):
        if has_plate_right(self.kept_rig, deed[1], self.plates(deed[1]), deed):
            return
        if deed[0] == "put":
            raise NoRoom(deed[1])
        raise NoPlate(deed[1])

    def rig(self):
        return self.kept_rig

    def height(self, bar):
        return facts_of(self.height_by_bar, bar)

    def plates(self, bar):
        return facts_of(self.plates_by_bar, bar)

    def lean(self, bar):
        return lean_of(self.kept_rig, bar, self.hanging(bar), self.plates(bar))

    def hanging(self, bar):
        if bar not in self.height_by_bar:
            raise NoName(bar)
        return [piece for piece in self.kept_rig.pieces() if self.bar_by_piece.get(piece) == bar]

    def braked(self, bar):
        return facts_of(self.brake_by_bar, bar)

    def heights(self):
        return dict(self.height_by_bar)

    def drops(self):
        drops = {}
        for bar in self.kept_rig.bars():
            drops[bar] = drop_of(self.kept_rig, self.hanging(bar))
        return drops

    def dock(self):
        return [piece for piece in self.kept_rig.pieces() if piece not in self.bar_by_piece]

    def state(self):
        bars = self.kept_rig.bars()
        return (
            tuple([self.height(bar) for bar in bars]),
            tuple([tuple(self.hanging(bar)) for bar in bars]),
            tuple([self.plates(bar) for bar in bars]),
            tuple([self.braked(bar) for bar in bars]),
        )

    def log(self):
        return [copy_of(deed) for deed in self.deeds_done]


def ask_names(rig, deed):
    bars = [move[0] for move in deed[1]] if deed[0] == "turn" else [deed[1]]
    for bar in bars:
        if bar not in rig.bars():
            raise NoName(bar)
    # Only hang and strike have a third thing, a piece.
    for piece in deed[2:]:
        if piece not in rig.pieces():
            raise NoName(piece)
