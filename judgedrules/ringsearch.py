"""The least ring with a heavy step in it."""


class Steps:
    """Steps from one thing to another, each heavy or not, and the first places of clauses that have them."""

    def __init__(self):
        self.heavy = {}
        self.places = {}

    def note(self, start, end, heavy, place):
        """Add a step that a clause has; it's heavy, if it is in any clause."""
        step = (start, end)
        self.heavy[step] = heavy or self.heavy.get(step, False)
        self.places[step] = min(place, self.places.get(step, place))

    def ring_places(self):
        """The first places of clauses that have the steps of the least ring; none, if there's no ring."""
        ring = least_ring(self.heavy)
        return [self.places[step] for step in zip(ring, ring[1:] + ring[:1])]


def neighbours(steps):
    """To what steps lead from each of their starts."""
    ways = {}
    for start, end in steps:
        ways.setdefault(start, []).append(end)
    return ways


def distances(ways, start):
    """How many steps it takes from a start to all that can be reached."""
    found = {start: 0}
    row = [start]
    while row:
        reached = []
        for current in row:
            for further in ways.get(current, []):
                if further not in found:
                    found[further] = found[current] + 1
                    reached.append(further)
        row = reached
    return found


def on_the_way(back, found, ends):
    """All that lies on shortest ways to the ends from where the distances were found."""
    lying = list(ends)
    row = list(ends)
    while row:
        before = {}
        for current in row:
            for earlier in back.get(current, []):
                if found.get(earlier) == found[current] - 1:
                    before[earlier] = True
        row = list(before)
        lying.extend(row)
    return lying


def on_least_rings(heavy):
    """All that lies on rings of the fewest steps with a heavy one."""
    ways = neighbours(heavy)
    back = neighbours([(end, start) for start, end in heavy])
    heavy_back = neighbours([(end, start) for start, end in heavy if heavy[(start, end)]])
    lying = []
    fewest = None
    for end, starts in heavy_back.items():
        found = distances(ways, end)
        steps = [found[start] for start in starts if start in found]
        if not steps or fewest is not None and min(steps) > fewest:
            continue
        if min(steps) != fewest:
            fewest = min(steps)
            lying = []
        lying.extend(on_the_way(back, found, [start for start in starts if found.get(start) == fewest]))
    return lying


def steps_back(heavy):
    """Steps from ends to starts, told with whether a heavy step has been gone on the way here."""
    steps = []
    for start, end in heavy:
        steps.append(((end, True), (start, True)))
        if heavy[(start, end)]:
            steps.append(((end, True), (start, False)))
        else:
            steps.append(((end, False), (start, False)))
    return steps


def least_ring(heavy):
    """The ring of the fewest steps with a heavy one; of several the first, from its least thing on.

    No thing comes twice on a ring of the fewest steps; so it's enough to go on, again and again, to the first
    thing from which the way back is as short as it can be.
    """
    lying = on_least_rings(heavy)
    if not lying:
        return []
    ways = neighbours(heavy)
    goal = (min(lying), True)
    left = distances(neighbours(steps_back(heavy)), goal)
    ring = []
    state = (min(lying), False)
    while state != goal:
        thing, lifted = state
        ring.append(thing)
        further = [(end, lifted or heavy[(thing, end)]) for end in ways[thing]]
        state = min([option for option in further if left.get(option) == left[state] - 1])
    return ring
