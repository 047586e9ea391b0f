"""How a cube whose spans have widths is parted most cheaply."""

from behindtaps.currents import Current


class Cutter:
    """Parts the corners called ones from those called zeros, in a cube for a sort.

    Corners and spans are told by their numbers; faces has for each span the numbers of its corners,
    for pipes and leads just the low one and the high one. All ones are one node, and all zeros, too.
    Each corner stays with its home, a corner, which alone may be told as one of the ones or zeros.
    """

    def __init__(self, homes, faces, sort, ones, zeros):
        self.of_sort = sort
        self.faces = faces
        self.current = Current()
        self.source = self.current.new_node()
        self.target = self.current.new_node()
        nodes = [self.node_for(corner, ones, zeros) for corner in range(len(homes))]
        self.nodes = [nodes[home] for home in homes]
        self.arcs = [self.arc_of(face) for face in faces]

    def node_for(self, corner, ones, zeros):
        if corner in ones:
            return self.source
        return self.target if corner in zeros else self.current.new_node()

    def arc_of(self, face):
        """The number of the arc that has the room of the span's width, those with endless room behind it."""
        current = self.current
        nodes = sorted(set([self.nodes[corner] for corner in face]))
        if self.of_sort != "hubs":
            return current.new_arc(self.nodes[face[-1]], self.nodes[face[0]], 0, 0)
        entrance = current.new_node()
        way_out = current.new_node()
        arc = current.new_arc(entrance, way_out, 0, 0)
        for node in nodes:
            current.new_arc(node, entrance, 0, 0)
            current.new_arc(way_out, node, 0, 0)
        return arc

    def cuts(self, widths):
        """The least cost for these widths, wholes, and a list of one or two lots of corners with this cost."""
        self.set_room(widths)
        cost = self.current.run(self.source, self.target)
        near = self.current.levels_from(self.source)
        far = self.current.levels_to(self.target)
        first = [near[node] is not None for node in self.nodes]
        second = [far[node] is None for node in self.nodes]
        return cost, [first] if first == second else [first, second]

    def set_room(self, widths):
        """Gives each arc the room that these widths leave to it."""
        endless = sum(widths) + 1
        room = self.current.room
        for arc in range(0, len(room), 2):
            room[arc] = endless
            room[arc + 1] = 0
        for arc, width in zip(self.arcs, widths):
            room[arc] = width
            if self.of_sort == "pipes":
                room[arc + 1] = width
            elif self.of_sort == "leads":
                room[arc + 1] = endless

    def is_cut(self, span, lot):
        """Whether the span of this number goes from the lot of corners to the others."""
        inside = [lot[corner] for corner in self.faces[span]]
        if self.of_sort == "leads":
            return inside[-1] and not inside[0]
        return any(inside) and not all(inside)
