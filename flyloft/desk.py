"""A desk: a show that is led by rows of text, with an answer to each."""

from flyloft.books import read_book
from flyloft.errors import NoLoft, NoRow
from flyloft.rigs import Rig
from flyloft.shows import Show
from flyloft.tallies import turns_and_plates

ROWS_WITH_LINES = ("rig", "cue")
ROWS_WITH_A_BAR = ("height", "plates", "lean", "hangs")
ROWS_ALONE = ("go", "back", "dock", "done", "braked")


class Desk:

    def __init__(self):
        # None till the first rig is answered.
        self.show = None

    def say(self, row):
        if not is_row(row):
            raise NoRow("this row is none that a desk knows")
        parts = row.partition(" ")
        if parts[0] == "rig":
            self.show = Show(Rig(parts[2].split("; ")), [])
            return "ok"
        if self.show is None:
            raise NoLoft("no rig is told yet")
        if parts[0] == "cue":
            self.show.add(read_book(self.show.loft().rig(), [parts[2]])[0])
            return "ok"
        if parts[0] in ROWS_WITH_A_BAR:
            return told_of_bar(self.show.loft(), parts[0], parts[2])
        return self.answered(row)

    def answered(self, row):
        if row == "go":
            return told_deeds(self.show.go())
        if row == "back":
            return told_deeds(self.show.back())
        if row == "dock":
            return told_names(self.show.loft().dock())
        if row == "done":
            return str(self.show.done())
        loft = self.show.loft()
        return told_names([bar for bar in loft.rig().bars() if loft.braked(bar)])


def is_row(row):
    if not isinstance(row, str):
        return False
    words = row.split(" ")
    if words[0] in ROWS_WITH_LINES:
        return len(words) > 1
    if words[0] in ROWS_WITH_A_BAR:
        return len(words) == 2
    return row in ROWS_ALONE


def told_of_bar(loft, asked, bar):
    if asked == "height":
        return str(loft.height(bar))
    if asked == "plates":
        return str(loft.plates(bar))
    if asked == "lean":
        return str(loft.lean(bar))
    return told_names(loft.hanging(bar))


def told_deeds(deeds):
    return " ".join([str(number) for number in turns_and_plates(deeds)])


def told_names(names):
    return " ".join(names) if names else "none"
