"""The desk: turnings that are put in and taken out, pieces that are poured and turned, and every deed undone."""

from vesselhall.errors import NoDeed, NoPieces, NoStuff, NoText, NotNow, NoTurning
from vesselhall.texts import turning_read, turning_text
from vesselhall.vessels import check_turnings, made, stuffs_of
from vesselhall.walks import can_be_made, count_behind


class Desk:
    def __init__(self, words):
        self.stuffs = stuffs_of(words)
        self.turnings = ()
        self.pieces = (0,) * len(self.stuffs)
        # What was there ahead of each deed: tuples, so that no later deed changes what is kept here.
        self.deeds = []

    def keep(self, turnings, pieces):
        self.deeds.append((self.turnings, self.pieces))
        self.turnings = turnings
        self.pieces = pieces

    def place_of(self, text):
        lying = self.texts()
        if text not in lying:
            raise NoTurning("no turning with this text lies there")
        return lying.index(text)

    def put(self, text):
        turning = turning_read(self.stuffs, text)
        if turning is None:
            raise NoText(0)
        turnings = self.turnings + (turning,)
        check_turnings(turnings)
        self.keep(turnings, self.pieces)

    def take(self, text):
        place = self.place_of(text)
        self.keep(self.turnings[:place] + self.turnings[place + 1:], self.pieces)

    def texts(self):
        return [turning_text(self.stuffs, turning) for turning in self.turnings]

    def vessel(self):
        return made(self.stuffs, self.turnings)

    def pour(self, word, pieces):
        if word not in self.stuffs:
            raise NoStuff("the desk has no stuff with this word")
        place = self.stuffs.index(word)
        behind = list(self.pieces)
        behind[place] = behind[place] + pieces
        if behind[place] < 0:
            raise NoPieces("there would be fewer pieces than none")
        self.keep(self.turnings, tuple(behind))

    def turn(self, text):
        turning = self.turnings[self.place_of(text)]
        if not can_be_made(turning, self.pieces):
            raise NotNow(0)
        self.keep(self.turnings, count_behind(turning, self.pieces))

    def count(self):
        return list(zip(self.stuffs, self.pieces))

    def undo(self):
        if len(self.deeds) == 0:
            raise NoDeed("no deed is left that could be undone")
        ahead = self.deeds.pop()
        self.turnings = ahead[0]
        self.pieces = ahead[1]
