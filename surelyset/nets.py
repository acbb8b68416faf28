"""Nets of arcs with room for a flow: the greatest flow, its ways, and where a net is cut at the least cost."""


class Net:
    """A net with the vertices "start" and "goal"; the others are named by tuples.

    The arc number k ^ 1 is the way back along the arc number k.
    """

    def __init__(self):
        self.arcs = {"start": [], "goal": []}
        self.heads = []
        self.rooms = []
        self.flow = []

    def add_arc(self, tail, head, room):
        """Adds an arc with so much room."""
        for vertex, other, many in ((tail, head, room), (head, tail, 0)):
            self.arcs.setdefault(vertex, []).append(len(self.heads))
            self.heads.append(other)
            self.rooms.append(many)
            self.flow.append(0)

    def come_to(self, rooms):
        """A dict from the vertices that are come to from the start, where there is room, to the last arcs, or None."""
        found = {"start": None}
        waiting = ["start"]
        while waiting:
            later = []
            for vertex in waiting:
                for arc in self.arcs[vertex]:
                    if rooms[arc] > 0 and self.heads[arc] not in found:
                        found[self.heads[arc]] = arc
                        later.append(self.heads[arc])
            waiting = later
        return found

    def free_rooms(self):
        """The room that is left on each arc."""
        return [room - flow for room, flow in zip(self.rooms, self.flow)]

    def path(self, rooms):
        """The arcs of a shortest path from the start to the goal where there is room, None if there is none."""
        found = self.come_to(rooms)
        if "goal" not in found:
            return None
        arcs = []
        vertex = "goal"
        while found[vertex] is not None:
            arcs.append(found[vertex])
            vertex = self.heads[found[vertex] ^ 1]
        return arcs[::-1]

    def fill(self):
        """Makes the flow as great as it can be; the room of some arc on each path has to be bounded."""
        rooms = self.free_rooms()
        arcs = self.path(rooms)
        while arcs is not None:
            more = least_of(rooms, arcs)
            for arc in arcs:
                self.flow[arc] += more
                self.flow[arc ^ 1] -= more
            rooms = self.free_rooms()
            arcs = self.path(rooms)

    def ways(self):
        """Tuples (amount, vertices between start and goal) of which the flow is made up."""
        left = list(self.flow)
        found = []
        arcs = self.path(left)
        while arcs is not None:
            amount = least_of(left, arcs)
            for arc in arcs:
                left[arc] -= amount
                left[arc ^ 1] += amount
            found.append((amount, [self.heads[arc] for arc in arcs[:-1]]))
            arcs = self.path(left)
        return found


def least_of(rooms, arcs):
    """The least room on these arcs."""
    least = rooms[arcs[0]]
    for arc in arcs:
        if rooms[arc] < least:
            least = rooms[arc]
    return least
