"""Plays: walkers that go through a net one past the other."""

from evenpass.errors import NoLane, NoWalker
from evenpass.nets import is_lane, is_whole


def place_on(net, lane, start):
    for number in range(start, len(net[1])):
        if lane in net[1][number]:
            return ("before", number, lane)
    return ("exit", lane)


def numbers_of(wide, lane, low, high):
    return [lane + wide * count for count in range(low, high)]


class Play:
    def __init__(self, net):
        self.net = net
        self.facing = [wicket[0] for wicket in net[1]]
        self.tally = [0] * net[0]
        # Of each walker where it is, as it is told, and by how much it changes an exit's count.
        self.places = []
        self.changes = []

    def enter(self, lane):
        return self.come_in(lane, 1)

    def enter_back(self, lane):
        return self.come_in(lane, -1)

    def come_in(self, lane, change):
        if not is_lane(self.net[0], lane):
            raise NoLane("no lane of this net")
        self.places.append(place_on(self.net, lane, 0))
        self.changes.append(change)
        return len(self.places) - 1

    def where(self, walker):
        if not is_whole(walker) or not 0 <= walker < len(self.places):
            raise NoWalker("no walker of this play")
        return self.places[walker]

    def step(self, walker):
        place = self.where(walker)
        if place[0] == "out":
            raise NoWalker("this walker has left")
        if place[0] == "exit":
            self.places[walker] = self.leave(place[1], self.changes[walker])
        else:
            self.places[walker] = self.pass_wicket(place[1], self.changes[walker])
        return self.places[walker]

    def leave(self, lane, change):
        before = self.tally[lane]
        self.tally[lane] += change
        count = before if change == 1 else self.tally[lane]
        return ("out", lane, lane + self.net[0] * count)

    def pass_wicket(self, wicket, change):
        before = self.facing[wicket]
        self.turn(wicket)
        lane = before if change == 1 else self.facing[wicket]
        return place_on(self.net, lane, wicket + 1)

    def turn(self, wicket):
        lanes = self.net[1][wicket]
        self.facing[wicket] = lanes[1] if self.facing[wicket] == lanes[0] else lanes[0]

    def inside(self):
        return [walker for walker, place in enumerate(self.places) if place[0] != "out"]

    def shown(self):
        return list(self.facing)

    def counts(self):
        return list(self.tally)

    def standing(self):
        found = []
        for lane, count in enumerate(self.tally):
            found.extend(numbers_of(self.net[0], lane, 0, count))
        return sorted(found)

    def owed(self):
        found = []
        for lane, count in enumerate(self.tally):
            found.extend(numbers_of(self.net[0], lane, count, 0))
        return sorted(found)

    def lacking(self):
        wide = self.net[0]
        greatest = max(self.standing(), default=0)
        return [number for number in range(greatest) if number // wide >= self.tally[number % wide]]

    def rest(self):
        for walker in self.inside():
            while self.places[walker][0] != "out":
                self.step(walker)

    def twin(self):
        other = Play(self.net)
        other.facing = list(self.facing)
        other.tally = list(self.tally)
        other.places = list(self.places)
        other.changes = list(self.changes)
        return other
