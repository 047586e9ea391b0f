"""The greatest current between two nodes that are joined by arcs, in wholes."""


class Current:
    """Arcs between nodes, each with the room that is left in it; arc and arc ^ 1 run against each other."""

    def __init__(self):
        self.leaving = []
        self.ends = []
        self.room = []

    def new_node(self):
        """A node more; nodes are numbered from 0."""
        self.leaving.append([])
        return len(self.leaving) - 1

    def new_arc(self, start, end, forth, back):
        """The number of a new arc with so much room from start to end and back."""
        arc = len(self.ends)
        self.leaving[start].append(arc)
        self.leaving[end].append(arc + 1)
        self.ends.extend([end, start])
        self.room.extend([forth, back])
        return arc

    def run(self, source, target):
        """Lets as much run from source to target as can, and returns how much it is."""
        total = 0
        levels = self.levels_from(source)
        while levels[target] is not None:
            tried = [0] * len(self.leaving)
            more = self.push(source, target, levels, tried)
            while more > 0:
                total += more
                more = self.push(source, target, levels, tried)
            levels = self.levels_from(source)
        return total

    def levels_from(self, source):
        """How many arcs with room lead at least from the source to each node, None where none do."""
        return self.levels_at(source, 0)

    def levels_to(self, target):
        """How many arcs with room lead at least from each node to the target, None where none do."""
        return self.levels_at(target, 1)

    def levels_at(self, start, turn):
        """The levels of all nodes along the arcs (turn 0), or against them (turn 1), from one node on."""
        levels = [None] * len(self.leaving)
        levels[start] = 0
        reached = [start]
        while len(reached) > 0:
            further = []
            for node in reached:
                for arc in self.leaving[node]:
                    end = self.ends[arc]
                    if self.room[arc ^ turn] > 0 and levels[end] is None:
                        levels[end] = levels[node] + 1
                        further.append(end)
            reached = further
        return levels

    def push(self, source, target, levels, tried):
        """Pushes along one shortest way, and returns how much; 0 if there is no such way left."""
        way = []
        node = source
        while node != target:
            arc = self.next_arc(node, levels, tried)
            if arc is not None:
                way.append(arc)
                node = self.ends[arc]
            elif len(way) == 0:
                return 0
            else:
                node = self.ends[way.pop() ^ 1]
                tried[node] += 1
        amount = min([self.room[arc] for arc in way])
        for arc in way:
            self.room[arc] -= amount
            self.room[arc ^ 1] += amount
        return amount

    def next_arc(self, node, levels, tried):
        """The first arc not yet tried in vain that leads from the node to the next level; None if there is none."""
        leaving = self.leaving[node]
        while tried[node] < len(leaving):
            arc = leaving[tried[node]]
            if self.room[arc] > 0 and levels[self.ends[arc]] == levels[node] + 1:
                return arc
            tried[node] += 1
        return None
