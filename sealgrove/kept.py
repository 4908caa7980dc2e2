"""Kept paths: the paths of all places of a tree in ascending order, without making the tree for each of them."""

from sealgrove.common import joined, need_within, pieces
from sealgrove.errors import Malformed, Refused, UsedUp
from sealgrove.octets import is_bytes, number_of, u8, u32
from sealgrove.stacks import SCHEDULES, Stack, lowest_of, need_shape, stack_levels
from sealgrove.tree import HIGHEST, put_leaf

HEAD_SIZE = 7


class KeptPath:
    """A kept path that stands at a place of a tree."""

    def __init__(self, suite, height, leaf, text, *, place=0, schedule="even"):
        need_shape(height, place, schedule)
        self.suite = suite
        self.height = height
        self.place = place
        self.schedule = schedule
        self._leaf = leaf
        self._text = text
        self._stacks = []
        self._path = []
        self.hold(tree_nodes(suite, height, leaf, text, held_nodes(height, place, schedule)))

    def hold(self, values):
        """Take the values of the path and of the stacks, in the order of the state."""
        self._path = values[:self.height]
        self._stacks = []
        used = self.height
        for level, levels in enumerate(stack_levels(self.height, self.place, self.schedule)):
            stack = Stack(level)
            stack.set_at(self.height, self.place)
            behind = used + len(levels)
            stack.nodes = list(zip(levels, values[used:behind]))
            self._stacks.append(stack)
            used = behind

    def resume(self, height, leaf, text, place, schedule, values):
        """Become the kept path of another tree that holds these values."""
        self.height = height
        self.place = place
        self.schedule = schedule
        self._leaf = leaf
        self._text = text
        self.hold(values)

    def path(self):
        """Return the path of the place."""
        return [list(value) for value in self._path]

    def advance(self):
        """Go on to the next place; return how many units put a leaf, and how many made a parent."""
        if self.place == (1 << self.height) - 1:
            raise UsedUp("the kept path stands at the last place")
        self.place += 1
        for stack in self._stacks:
            if self.place % (1 << stack.level) == 0:
                self._path[stack.level] = stack.nodes[0][1]
                stack.set_at(self.height, self.place)
        if self.schedule == "even":
            return self._work_even()
        return self._work_lowest()

    def _work_even(self):
        put = []
        for stack in self._stacks:
            for _ in range(2):
                if not stack.is_ready():
                    put.append(stack.work(self.suite, self._leaf, self._text))
        return put.count(True), put.count(False)

    def _work_lowest(self):
        put = []
        for _ in range(2 * self.height - 1):
            stack = lowest_of(self._stacks)
            if stack is not None:
                put.append(stack.work(self.suite, self._leaf, self._text))
        return put.count(True), put.count(False)

    def need_goal(self, place):
        """Refuse a place that is none, or before the one at which the kept path stands."""
        need_within(place, 0, (1 << self.height) - 1, "the place")
        if place < self.place:
            raise Refused("the kept path does not go back")

    def go_to(self, place):
        """Go on to the place; return how many units put a leaf, and how many made a parent."""
        self.need_goal(place)
        leaves = 0
        parents = 0
        while self.place < place:
            put, made = self.advance()
            leaves += put
            parents += made
        return leaves, parents

    def stack(self, level):
        """Return the nodes of a stack as tuples of a level and a value."""
        need_within(level, 0, self.height - 1, "the level")
        return [(found, list(value)) for found, value in self._stacks[level].nodes]

    def target(self, level):
        """Return the index of the target of a stack, or None."""
        need_within(level, 0, self.height - 1, "the level")
        return self._stacks[level].goal

    def kept(self):
        """Return how many values are held."""
        return self.height + sum([len(stack.nodes) for stack in self._stacks])

    def state(self):
        """Return the byte list from which the kept path can be read again."""
        head = u8(SCHEDULES.index(self.schedule)) + u8(self.height) + u8(self.suite.size) + u32(self.place)
        nodes = [value for stack in self._stacks for _, value in stack.nodes]
        return head + joined(self._path) + joined(nodes)


def held_nodes(height, place, schedule):
    """Return the levels and indexes of the nodes that a kept path holds, in the order of its state."""
    found = [(level, (place >> level) ^ 1) for level in range(height)]
    for level, levels in enumerate(stack_levels(height, place, schedule)):
        stack = Stack(level)
        stack.set_at(height, place)
        found.extend(stack.indexes(levels))
    return found


def tree_nodes(suite, height, leaf, text, wanted):
    """Return the values of the nodes that are wanted; the tree is made with a small stack."""
    values = {node: [] for node in wanted}
    stack = []
    for place in range(1 << height):
        for level, index, value in put_leaf(suite, text, stack, place, leaf(place)):
            if (level, index) in values:
                values[level, index] = value
    return [values[node] for node in wanted]


def kept_of(suite, leaf, text, data):
    """Return the kept path that is read from a state."""
    if not is_bytes(data) or len(data) < HEAD_SIZE or data[0] >= len(SCHEDULES):
        raise Malformed("the list does not begin like a state")
    schedule = SCHEDULES[data[0]]
    height = data[1]
    place = number_of(data[3:HEAD_SIZE])
    if height > HIGHEST or data[2] != suite.size or place >> height != 0:
        raise Malformed("the state is that of no tree of the suite")
    count = height + sum([len(levels) for levels in stack_levels(height, place, schedule)])
    if len(data) != HEAD_SIZE + count * suite.size:
        raise Malformed("the state does not have as many values as its place asks for")
    # A new kept path calls its functions, and reading calls none: so it is begun with an empty tree of its own.
    kept = KeptPath(suite, 0, lambda q: [], lambda level, index, left, right: [])
    kept.resume(height, leaf, text, place, schedule, pieces(data[HEAD_SIZE:], suite.size))
    return kept


def shape(height, place, schedule):
    """Return the levels of the nodes that each stack holds after the round of the place."""
    need_shape(height, place, schedule)
    return stack_levels(height, place, schedule)
