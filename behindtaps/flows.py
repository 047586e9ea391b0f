"""Sides, flows and walls of nets."""

from behindtaps.currents import Current
from behindtaps.errors import BadFlow, BadPlaces
from behindtaps.lots import are_names, check_lot, lots_in, opposite_in, plain_lots_in
from behindtaps.nets import check_net, places_in, places_of_part, sort_in
from behindtaps.numbers import are_numbers, divided, is_less, is_number, is_number_from_0, minus, over_one_bottom
from behindtaps.numbers import plus, sum_of, top_of, turned


def side_cost(net, side):
    """What the side costs: the sum of the widths of all parts that it cuts."""
    check_net(net)
    if not are_places(net, side):
        raise BadPlaces("a side is an ascending tuple of places of the net")
    return sum_of([part[-1] for part in net[1] if cuts(side, part)])


def is_side(net, source, target, value):
    """Whether any value is a side from the source to the target."""
    check_blocks(net, source, target)
    if not are_places(net, value):
        return False
    return all([place in value for place in source]) and not any([place in value for place in target])


def least_side(net, source, target):
    """The least cost of a side, and of the sides with this cost the one that lies in all others."""
    check_blocks(net, source, target)
    stream = Stream(net, source, target)
    return (stream.amount(), stream.near_places())


def is_flow(net, source, target, value):
    """Whether any value is a flow from the source to the target."""
    check_blocks(net, source, target)
    return is_flow_between(net, source, target, value)


def amount_of(net, source, target, flow):
    """What goes out of the places of the source less what comes into them."""
    check_blocks(net, source, target)
    if not is_flow_between(net, source, target, flow):
        raise BadFlow("it is a flow from the source to the target")
    leaving = what_leaves(net, flow)
    return sum_of([leaving[place] for place in source])


def greatest_flow(net, source, target):
    """The greatest amount, and a flow with it."""
    check_blocks(net, source, target)
    stream = Stream(net, source, target)
    return (stream.amount(), stream.flow())


def flow_between(net, source, target):
    """The greatest amount of a flow."""
    check_blocks(net, source, target)
    return greatest_amount(net, source, target)


def wall(net, lot):
    """What flows at most from the lot to all other taps."""
    check_net(net)
    check_lot(net[0], lot)
    return what_a_lot_lets(net, lot)


def walls(net):
    """The dict from each plain lot for the sort of the net to its wall."""
    check_net(net)
    return all_plain(net)


def alike_nets(net, another):
    """Whether both nets have the same taps and each lot has one wall in both."""
    check_net(net)
    check_net(another)
    if net[0] != another[0]:
        return False
    if sort_in(net) != "leads" and sort_in(another) != "leads":
        return all_plain(net) == all_plain(another)
    return all([what_a_lot_lets(net, lot) == what_a_lot_lets(another, lot) for lot in lots_in(net[0])])


class Stream:
    """The greatest flow of a net between two blocks, its widths as wholes over one bottom.

    Each hub has an entrance and an exit, so that all that runs through it runs along one arc.
    """

    def __init__(self, net, source, target):
        self.parts = net[1]
        self.widths, self.bottom = over_one_bottom([part[-1] for part in self.parts])
        self.endless = sum(self.widths) + 1
        self.current = Current()
        self.nodes = {}
        for place in places_in(net[0], net[1]):
            self.nodes[place] = self.current.new_node()
        self.arcs = [self.arcs_of(part, width) for part, width in zip(self.parts, self.widths)]
        spring = self.node_before(source)
        self.total = self.current.run(spring, self.node_behind(target))
        self.levels = self.current.levels_from(spring)

    def arcs_of(self, part, width):
        """The numbers of the arcs of a part: one for a pipe or lead, for a hub those into it, then those out of it."""
        current = self.current
        if part[0] != "hub":
            back = width if part[0] == "pipe" else 0
            return [current.new_arc(self.nodes[part[1]], self.nodes[part[2]], width, back)]
        entrance = current.new_node()
        way_out = current.new_node()
        current.new_arc(entrance, way_out, width, 0)
        places = part[1]
        into = [current.new_arc(self.nodes[place], entrance, self.endless, 0) for place in places]
        return into + [current.new_arc(way_out, self.nodes[place], self.endless, 0) for place in places]

    def node_before(self, block):
        """A new node from which as much as one likes runs into the block."""
        node = self.current.new_node()
        for place in block:
            self.current.new_arc(node, self.nodes[place], self.endless, 0)
        return node

    def node_behind(self, block):
        """A new node to which as much as one likes runs out of the block."""
        node = self.current.new_node()
        for place in block:
            self.current.new_arc(self.nodes[place], node, self.endless, 0)
        return node

    def amount(self):
        return divided(self.total, self.bottom)

    def near_places(self):
        """The places to which still more could run from the source, ascending."""
        return tuple([place for place, node in self.nodes.items() if self.levels[node] is not None])

    def flow(self):
        """What runs through each part."""
        return tuple([self.flow_of(at) for at in range(len(self.parts))])

    def flow_of(self, at):
        """What runs through one part."""
        room = self.current.room
        if self.parts[at][0] != "hub":
            return divided(self.widths[at] - room[self.arcs[at][0]], self.bottom)
        runs = [self.endless - room[arc] for arc in self.arcs[at]]
        many = len(runs) // 2
        return tuple([divided(into - out, self.bottom) for into, out in zip(runs[:many], runs[many:])])


def check_blocks(net, source, target):
    """Checks the net and two blocks of it that are apart."""
    check_net(net)
    if not is_block(net, source):
        raise BadPlaces("the source is an ascending tuple of places of the net, one at least")
    if not is_block(net, target) or any([place in source for place in target]):
        raise BadPlaces("the target is an ascending tuple of places of the net that are not in the source")


def are_places(net, value):
    """Whether any value is an ascending tuple of unlike places of the net, which may be empty."""
    if not are_names(value):
        return False
    places = places_in(net[0], net[1])
    return all([place in places for place in value])


def is_block(net, value):
    """Whether any value is a block of the net."""
    return are_places(net, value) and len(value) >= 1


def cuts(side, part):
    """Whether the side, a tuple of places, cuts the part."""
    inside = [place in side for place in places_of_part(part)]
    if part[0] == "lead":
        return inside[0] and not inside[1]
    return any(inside) and not all(inside)


def greatest_amount(net, source, target):
    """As flow_between, of what are surely two blocks that are apart."""
    return Stream(net, source, target).amount()


def what_a_lot_lets(net, lot):
    """As wall, of what is surely a lot of the taps of a net."""
    return greatest_amount(net, lot, opposite_in(net[0], lot))


def all_plain(net):
    """As walls, of what is surely a net."""
    found = {}
    for lot in plain_lots_in(net[0], sort_in(net)):
        found[lot] = what_a_lot_lets(net, lot)
    return found


def is_flow_between(net, source, target, value):
    """As is_flow, of what are surely two blocks of a net that are apart."""
    if not isinstance(value, tuple) or len(value) != len(net[1]):
        return False
    if not all([runs_through(part, amount) for part, amount in zip(net[1], value)]):
        return False
    leaving = what_leaves(net, value)
    return all([amount == 0 for place, amount in leaving.items() if place not in source and place not in target])


def runs_through(part, value):
    """Whether any value is what can run through the part."""
    width = part[-1]
    if part[0] == "hub":
        if not are_numbers(value, len(part[1])) or sum_of(value) != 0:
            return False
        return not is_less(width, sum_of([amount for amount in value if top_of(amount) > 0]))
    if part[0] == "lead":
        return is_number_from_0(value) and not is_less(width, value)
    return is_number(value) and not is_less(width, value) and not is_less(width, turned(value))


def what_leaves(net, flow):
    """The dict from each place to what goes out of it less what comes in."""
    leaving = {}
    for place in places_in(net[0], net[1]):
        leaving[place] = 0
    for part, runs in zip(net[1], flow):
        if part[0] == "hub":
            for place, amount in zip(part[1], runs):
                leaving[place] = plus(leaving[place], amount)
        else:
            leaving[part[1]] = plus(leaving[part[1]], runs)
            leaving[part[2]] = minus(leaving[part[2]], runs)
    return leaving
