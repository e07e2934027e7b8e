"""Webs: nodes that ask questions, and the ends that a test comes to."""

from steppedtests.errors import BadEnds, BadNode, BadStart, NoNode, NoPosition, TwiceAsked
from steppedtests.pupils import is_question

MOST_ENDS = 60


class Web:
    """A stepped test. Node k is the position k, and end e is the position -1 - e."""

    def __init__(self, nodes, ends, *, start=None):
        if not 1 <= ends <= MOST_ENDS:
            raise BadEnds(ends)
        self.nodes = tuple([tuple(node) for node in nodes])
        self.ends = ends
        for k, node in enumerate(self.nodes):
            if not self._can_stand(k, node):
                raise BadNode(k)
        self.start = self._first() if start is None else start
        if self.start not in self:
            raise BadStart(self.start)
        twice = _asked_twice(self.nodes)
        if twice is not None:
            raise TwiceAsked(twice)

    def _can_stand(self, k, node):
        """True if the node has the form of a node with the number k."""
        if len(node) not in (3, 4) or not is_question(node[0]):
            return False
        return all([target in self and not 0 <= target <= k for target in node[1:]])

    def _first(self):
        """The start of a web that is given none."""
        return 0 if self.nodes else -1

    def __len__(self):
        return len(self.nodes)

    def __getitem__(self, at):
        if not 0 <= at < len(self.nodes):
            raise NoNode(at)
        return self.nodes[at]

    def __iter__(self):
        raise TypeError("a web is not iterated over, but its nodes are")

    def __contains__(self, x):
        return -self.ends <= x < len(self.nodes)

    def __eq__(self, other):
        return (isinstance(other, Web) and self.nodes == other.nodes
                and self.ends == other.ends and self.start == other.start)

    def asked(self, position):
        """The questions of all nodes that are led to from the position, ascending."""
        return tuple(sorted(set([self.nodes[place][0] for place in self._led_to(position) if place >= 0])))

    def reach(self, position):
        """The numbers of the ends that are led to from the position, ascending."""
        return tuple(sorted(set([-1 - place for place in self._led_to(position) if place < 0])))

    def reached(self):
        """The nodes that are led to from the start, ascending."""
        return tuple(sorted(set([place for place in self._led_to(self.start) if place >= 0])))

    def _led_to(self, position):
        """All positions that right and wrong targets lead to from the position, each once."""
        if position not in self:
            raise NoPosition(position)
        found = {position: True}
        waiting = [position]
        while waiting:
            place = waiting.pop()
            targets = self.nodes[place][1:3] if place >= 0 else ()
            for target in targets:
                if target not in found:
                    found[target] = True
                    waiting.append(target)
        return list(found)


def _asked_twice(nodes):
    """The least node whose question is asked again on some way behind it, or None."""
    # Targets have greater numbers, so one pass from the last node knows all that
    # lies behind a node. There may be far too many ways to follow each of them.
    masks = [0] * len(nodes)
    twice = None
    for k in reversed(range(len(nodes))):
        behind = 0
        for target in nodes[k][1:]:
            if target >= 0:
                behind = behind | masks[target]
        own = 1 << nodes[k][0]
        if behind & own:
            twice = k
        masks[k] = behind | own
    return twice
