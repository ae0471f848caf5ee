"""Strata: how many strict steps there are, at most, on a way of leanings."""

from judgedrules.ringsearch import neighbours


def strata_of(heavy):
    """The stratum of all from where or to where steps lead; no ring of them has a heavy one.

    What leads back to itself has one stratum; so it's settled together, once all else to which it leads is.
    """
    ways = neighbours(heavy)
    back = neighbours([(end, start) for start, end in heavy])
    strata = {}
    for thing in reversed(left_in_order(back)):
        if thing not in strata:
            group = reached_anew(ways, thing, strata)
            level = level_above(heavy, ways, group, strata)
            for member in group:
                strata[member] = level
    return strata


def left_in_order(ways):
    """All that steps lead from or to, each behind what is reached from it and didn't reach it before."""
    found = {}
    left = []
    for start in ways:
        waiting = [(start, False)]
        while waiting:
            thing, leaving = waiting.pop()
            if leaving:
                left.append(thing)
            elif thing not in found:
                found[thing] = True
                waiting.append((thing, True))
                waiting.extend([(further, False) for further in ways.get(thing, []) if further not in found])
    return left


def reached_anew(ways, start, settled):
    """All that steps lead to from a start, but not through what's settled."""
    group = {start: True}
    waiting = [start]
    while waiting:
        current = waiting.pop()
        for further in ways.get(current, []):
            if further not in group and further not in settled:
                group[further] = True
                waiting.append(further)
    return group


def level_above(heavy, ways, group, strata):
    """The stratum of a group: the least above all that it leads to."""
    level = 0
    for member in group:
        for further in ways.get(member, []):
            if further not in group:
                level = max(level, strata[further] + int(heavy[(member, further)]))
    return level
