"""Fewest cuts and parted ways, both by one search for ways that share no hold."""

from whokeepsdesk.rows import ROOTS_HOLDER, holder_of


class Parting:
    """Parted ways to one object, known by the holds in use among those that are left."""

    def __init__(self, graph, target):
        self.graph = graph
        self.goal = holder_of(target)
        # A way that goes on from its end could as well have ended there.
        self.left = [hold.holder != self.goal for hold in graph.holds]
        self.used = [False for hold in graph.holds]

    def add_way(self, start, end):
        """Makes room for one more way from start to end, if that can be; tells whether."""
        found = self.search(start)
        if end not in found:
            return False
        while end != start:
            number = found[end]
            end = self.near_end(number)
            self.used[number] = not self.used[number]
        return True

    def search(self, start):
        """For each holder to which one more way from start can come, the last step to it."""
        found = {start: None}
        waiting = [start]
        at = 0
        while at < len(waiting):
            steps = self.steps_from(waiting[at])
            for number in steps:
                end = self.far_end(number)
                if end not in found:
                    found[end] = number
                    waiting.append(end)
            at += 1
        return found

    def steps_from(self, holder):
        # A hold in use is gone along backwards: the way that used it then takes another turn.
        forth = [number for number in self.graph.held[holder] if self.left[number] and not self.used[number]]
        back = [number for number in self.graph.leading[holder] if self.used[number]]
        return forth + back

    def near_end(self, number):
        hold = self.graph.holds[number]
        return holder_of(hold.lead) if self.used[number] else hold.holder

    def far_end(self, number):
        hold = self.graph.holds[number]
        return hold.holder if self.used[number] else holder_of(hold.lead)

    def let_go(self, number):
        """Lets a hold go, unless there would be fewer ways without it."""
        needed = self.used[number] and not self.go_around(number)
        self.used[number] = needed
        self.left[number] = needed

    def go_around(self, number):
        """Leads the way that uses a hold around it, if that can be; tells whether."""
        hold = self.graph.holds[number]
        self.left[number] = False
        self.used[number] = False
        return self.add_way(hold.holder, holder_of(hold.lead))


def most_parted(graph, target):
    parting = Parting(graph, target)
    while parting.add_way(ROOTS_HOLDER, parting.goal):
        pass
    return parting


def told_cut(graph, target):
    """The fewest cut of a live object where the fewest objects are live."""
    # What one more way can come to is live whichever fewest cut is cut, so the cut right behind it leaves no more live.
    found = most_parted(graph, target).search(ROOTS_HOLDER)
    return [
        number for number, hold in enumerate(graph.holds)
        if hold.holder in found and holder_of(hold.lead) not in found
    ]


def told_ways(graph, target):
    """The told ways to a live object, each a list of holds."""
    parting = most_parted(graph, target)
    for number in range(len(graph.holds)):
        parting.let_go(number)
    left_by_holder = []
    for own in graph.held:
        left_by_holder.append([number for number in own if parting.left[number]])
    firsts = list(left_by_holder[ROOTS_HOLDER])
    ways = []
    for first in firsts:
        ways.append(read_way(graph, first, parting.goal, left_by_holder))
    return ways


def read_way(graph, first, goal, left_by_holder):
    """The told way that begins with this hold; takes the others that it has out of those left."""
    way = [first]
    holder = holder_of(graph.holds[first].lead)
    while holder != goal:
        number = left_by_holder[holder].pop(0)
        way.append(number)
        holder = holder_of(graph.holds[number].lead)
    return way
