"""Shortest ways through nets, and which ways carry the most of all wishes at once, in wholes."""

from behindtaps.climbs import Climb
from behindtaps.nets import places_of_part
from behindtaps.numbers import over_one_bottom
from behindtaps.sendings import leads_through


def steps_from_places(net):
    """The dict from each place to the list of the steps, pairs of a part and a place, that lead out of it."""
    found = {}
    for at, part in enumerate(net[1]):
        for start in places_of_part(part):
            for end in places_of_part(part):
                if leads_through(part, start, end):
                    found.setdefault(start, []).append((at, end))
    return found


def shortest_ways(steps, lengths, start):
    """The dict from each place that can be reached to (length, number of steps, the place before, the last step)."""
    told = {start: (0, 0, None, None)}
    done = {}
    while len(told) > len(done):
        place = nearest(told, done)
        done[place] = True
        length, many, _, _ = told[place]
        for part, end in steps.get(place, []):
            further = (length + lengths[part], many + 1)
            if end not in told or further < told[end][:2]:
                told[end] = (further[0], further[1], place, (part, end))
    return told


def nearest(told, done):
    """The place not yet done that is the nearest one, of equally near ones that with the fewest steps."""
    best = None
    for place, row in told.items():
        if place not in done and (best is None or row[:2] < told[best][:2]):
            best = place
    return best


def way_to(told, place):
    """The way to a place, of what shortest_ways tells."""
    steps = []
    while told[place][3] is not None:
        steps.append(told[place][3])
        place = told[place][2]
    return tuple(steps[::-1])


class Share:
    """Lengths of parts that cost the least, widths times lengths, while wishes times distances come to 1.

    Unknowns: the length of each part, then for each pair what is counted as its distance, at most the
    length of each of its ways. Ways are put in only when the lengths found so far show that they are
    needed. The weights that show that no lengths cost less are what runs along the ways.
    """

    def __init__(self, net, wishes):
        self.pairs = sorted([pair for pair, wish in wishes.items() if wish != 0])
        self.steps = steps_from_places(net)
        self.many = len(net[1])
        self.wishes, self.wish_bottom = over_one_bottom([wishes[pair] for pair in self.pairs])
        self.widths, self.width_bottom = over_one_bottom([part[-1] for part in net[1]])
        self.climb = Climb([-width for width in self.widths] + [0] * len(self.pairs))
        self.ways = []

    def is_carried(self):
        """Goes on until nothing is left to be put in; False if some pair has no way at all."""
        self.climb.put_row([(self.many + at, -wish) for at, wish in enumerate(self.wishes)], -1)
        # Equal lengths that are above 0 make a first way with few steps.
        found = self.ways_for([1] * self.many)
        if any([way is None for _, way in found]):
            return False
        self.put_ways(list(enumerate([way for _, way in found])))
        self.climb.mend()
        while self.put_shorter_ways():
            self.climb.mend()
        return True

    def ways_for(self, lengths):
        """For each pair the length of a shortest way and the way, two times None if there is no way."""
        told = {}
        for start, _ in self.pairs:
            if start not in told:
                told[start] = shortest_ways(self.steps, lengths, start)
        found = []
        for start, end in self.pairs:
            if end not in told[start]:
                found.append((None, None))
            else:
                found.append((told[start][end][0], way_to(told[start], end)))
        return found

    def put_ways(self, found):
        """Puts in pairs of the number of a pair of taps and a way of it."""
        for at, way in found:
            row = [(self.many + at, 1)]
            for part in sorted(set([part for part, _ in way])):
                row.append((part, -len([1 for other, _ in way if other == part])))
            self.climb.put_row(row, 0)
            self.ways.append((at, way))

    def put_shorter_ways(self):
        """Puts in the ways that are shorter than what is counted as a distance; whether there were any."""
        tops = self.climb.tops()
        ways = []
        for at, (length, way) in enumerate(self.ways_for(tops[:self.many])):
            if length < tops[self.many + at]:
                ways.append((at, way))
        self.put_ways(ways)
        return len(ways) > 0

    def worth(self):
        """A top and a bottom: how often all wishes are carried."""
        return -self.climb.worth() * self.wish_bottom, self.climb.whole() * self.width_bottom

    def amounts(self):
        """The list of triples of a pair, a way and the top of what runs along it, and the bottom of all of these.

        Where a distance of 0 is counted, the weights may let more run than is wished: this is left out.
        """
        weights = self.climb.row_weights()
        left = [wish * weights.get(0, 0) for wish in self.wishes]
        found = []
        for row, (at, way) in enumerate(self.ways):
            amount = min(left[at], weights.get(row + 1, 0))
            if amount > 0:
                left[at] -= amount
                found.append((self.pairs[at], way, amount))
        return found, self.climb.whole() * self.width_bottom

    def lengths(self):
        """A whole for each part, and what wishes times distances come to for these, a whole and its bottom."""
        lengths = self.climb.tops()[:self.many]
        total = sum([wish * length for wish, (length, _) in zip(self.wishes, self.ways_for(lengths))])
        return lengths, total, self.wish_bottom
