"""The stacks of a kept path: what they hold after how many units of work, and in which order they work."""

from sealgrove.common import need_within
from sealgrove.errors import Malformed
from sealgrove.tree import HIGHEST

SCHEDULES = ("even", "lowest")


class Stack:
    """A stack of a level: its goal is the index of a node, or None, and its nodes are tuples (level, value)."""

    def __init__(self, level):
        self.level = level
        self.goal = None
        self.nodes = []

    def is_ready(self):
        """Tell whether no work is left."""
        return self.goal is None or len(self.nodes) == 1 and self.nodes[0][0] == self.level

    def tail(self):
        """Return the level of the last node, or that of the stack if there is none."""
        return self.nodes[-1][0] if self.nodes else self.level

    def set_at(self, height, place):
        """Drop all nodes, and turn to the node that the path of a later place needs."""
        self.nodes = []
        self.goal = goal_at(height, self.level, place)

    def work(self, suite, leaf, text):
        """Do one unit of work; tell whether it put a leaf."""
        nodes = self.nodes
        if len(nodes) < 2 or nodes[-1][0] != nodes[-2][0]:
            self.nodes = nodes + [(0, list(leaf(self.first_behind(nodes))))]
            return True
        level = nodes[-1][0] + 1
        index = self.first_behind(nodes[:-2]) >> level
        value = suite.digest(text(level, index, nodes[-2][1], nodes[-1][1]))
        self.nodes = nodes[:-2] + [(level, value)]
        return False

    def first_behind(self, nodes):
        """Return the first leaf behind those below the nodes, which begin with the first leaf below the goal."""
        return (self.goal << self.level) + sum([1 << level for level, _ in nodes])

    def indexes(self, levels):
        """Return the levels and indexes in the tree of the nodes that have these levels on this stack."""
        found = []
        first = 0 if self.goal is None else self.goal << self.level
        for level in levels:
            found.append((level, first >> level))
            first += 1 << level
        return found


def goal_at(height, level, place):
    """Return the target of the stack of a level that stands at a place since the last round that set it."""
    later = (place >> level) + 1
    return later ^ 1 if later < 1 << (height - level) else None


def need_shape(height, place, schedule):
    """Refuse what no kept path has."""
    need_within(height, 0, HIGHEST, "the height")
    need_within(place, 0, (1 << height) - 1, "the place")
    if schedule not in SCHEDULES:
        raise Malformed("the schedule is not even or lowest")


def lowest_of(stacks):
    """Return the stack whose turn it is by the schedule `lowest`, or None if all are ready."""
    found = None
    for stack in stacks:
        if not stack.is_ready() and (found is None or stack.tail() < found.tail()):
            found = stack
    return found


def whole_work(level):
    """Return how many units make a node of a level."""
    return (2 << level) - 1


def levels_after(units):
    """Return the levels of the nodes that a stack holds after so many units."""
    levels = []
    rest = units
    while rest > 0:
        level = (rest + 1).bit_length() - 2
        levels.append(level)
        rest -= whole_work(level)
    return levels


def stack_levels(height, place, schedule):
    """Return, for each stack, the levels of its nodes after the round of a place."""
    if schedule == "even":
        units = even_units(height, place)
    else:
        units = lowest_units(height, place)
    return [levels_after(done) for done in units]


def even_units(height, place):
    """Return how many units each stack has had since it was set, with the schedule `even`."""
    units = []
    for level in range(height):
        rounds = place % (1 << level) + 1
        has_goal = goal_at(height, level, place) is not None
        units.append(min(2 * rounds, whole_work(level)) if has_goal else 0)
    return units


def lowest_units(height, place):
    """Return how many units each stack has had since it was set, with the schedule `lowest`.

    Rounds are not gone through one by one. In 2^k of them, from a place on of which 2^(k + 1) is a
    divisor, the stacks below the level k do all the work for which they are set, as they are ready
    at the end. So it is known how many units are left for the others, which are set at the end only,
    and the order in which these others have their turns does not depend on the stacks below.
    """
    units = [0] * height
    for level in reversed(range(height)):
        if place >> level & 1 == 1:
            first = place >> (level + 1) << (level + 1)
            below = sum([whole_work(low) << (level - low) for low in range(level)])
            spread(height, first, level, units, ((2 * height - 1) << level) - below)
            units = [0] * (level + 1) + units[level + 1:]
    spread(height, place, 0, units, 2 * height - 1)
    return units


def spread(height, place, lowest, units, count):
    """Give so many units to the stacks from the level `lowest` on, which were set at the place or before."""
    left = count
    while left > 0:
        turns = sorted([
            (levels_after(units[level])[-1] if units[level] > 0 else level, level)
            for level in range(lowest, height)
            if units[level] < whole_work(level) and goal_at(height, level, place) is not None
        ])
        if not turns:
            return
        level = turns[0][1]
        bound = level if len(turns) == 1 else first_bound(level, turns[1])
        done = min(left, run_length(level, units[level], bound))
        units[level] += done
        left -= done


def first_bound(level, turn):
    """Return the least tail with which the stack of the level lets the other one have its turn."""
    tail, other = turn
    return tail if other < level else tail + 1


def run_length(level, units, bound):
    """Return after how many units the stack of the level has this tail, or is ready."""
    goal = min(bound, level)
    part = sum([whole_work(tail) for tail in levels_after(units) if tail < goal])
    return whole_work(goal) - part
