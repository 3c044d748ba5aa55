"""Shows: a loft that goes through a book of cues, and back again."""

from flyloft.cueing import deeds_of
from flyloft.errors import NoMore
from flyloft.lofts import Loft
from flyloft.logs import backwards


class Show:

    def __init__(self, rig, cues):
        self.own_loft = Loft(rig)
        self.cues = list(cues)
        # For each cue that stands done, what undoes it.
        self.ways_back = []

    def go(self):
        if self.done() == len(self.cues):
            raise NoMore("no cue is ahead")
        deeds = deeds_of(self.own_loft, self.cues[self.done()])
        self.do_all(deeds)
        self.ways_back.append(backwards(deeds))
        return deeds

    def back(self):
        if self.done() == 0:
            raise NoMore("no cue is done")
        deeds = self.ways_back.pop()
        self.do_all(deeds)
        return deeds

    def done(self):
        return len(self.ways_back)

    def loft(self):
        return self.own_loft

    # One cue more at the book's end.
    def add(self, cue):
        self.cues.append(cue)

    def do_all(self, deeds):
        for deed in deeds:
            self.own_loft.do(deed)
