"""Rooms in which moves are made and taken back, one by one."""

from fewrooms.errors import Barred, NoMove
from fewrooms.moves import fault_of, stand_behind
from fewrooms.plans import steps_of


class Yard:
    def __init__(self, net, rooms):
        self.net = net
        self.rooms = rooms
        self.made = []
        # The stands ahead of the first move and behind each one.
        self.stands = [()]

    def make_move(self, move):
        stand = self.stands[-1]
        word = fault_of(self.net, self.rooms, stand, move)
        if word is not None:
            raise Barred(len(self.made), word)
        self.made.append(move)
        self.stands.append(stand_behind(stand, move))

    def do_work(self, work):
        self.make_move(("do", work))

    def clear_work(self, work):
        self.make_move(("clear", work))

    def take_back(self):
        if not self.made:
            raise NoMove("no move is left to take back")
        self.made.pop()
        self.stands.pop()

    def stand_now(self):
        return self.stands[-1]

    def moves_now(self):
        return list(self.made)

    def steps_now(self):
        return steps_of(self.made)

    def most_now(self):
        return max([len(stand) for stand in self.stands])

    def free_now(self):
        return self.rooms - len(self.stands[-1])

    def twin_yard(self):
        twin = Yard(self.net, self.rooms)
        twin.made = list(self.made)
        twin.stands = list(self.stands)
        return twin
