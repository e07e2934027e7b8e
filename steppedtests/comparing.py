"""Comparing: whether webs give the same marks, and whether a node tells anything."""

from steppedtests.errors import NotReached
from steppedtests.harms import Answer, greatest_final, told_rights
from steppedtests.joint import Joint
from steppedtests.walks import check_marks, pupil_to
from steppedtests.webs import Web


def _both(first, second):
    """The joint walk of one pupil in both webs."""
    return Joint((first, second), ((first.start, second.start),))


def _unlike(joint, marks, others):
    """The first final whose ends have unlike marks, or None."""
    for e, f in joint.finals():
        if marks[e] != others[f]:
            return (e, f)
    return None


def _pupil_of(joint, ends):
    """A pupil who comes to these ends, a final of the joint walk."""
    return told_rights(joint.trail(ends)[1])


def alike(first, marks, second, others):
    """Whether a pupil has unlike marks in the two webs."""
    check_marks(first, marks)
    check_marks(second, others)
    joint = _both(first, second)
    ends = _unlike(joint, marks, others)
    if ends is None:
        return Answer(False, None, joint.states())
    return Answer(True, _pupil_of(joint, ends), None)


def widest_difference(first, marks, second, others):
    """The greatest difference of a pupil's marks in the two webs, with this pupil."""
    check_marks(first, marks)
    check_marks(second, others)
    joint = _both(first, second)
    number, ends = greatest_final(joint, lambda pair: abs(marks[pair[0]] - others[pair[1]]))
    return (number, _pupil_of(joint, ends))


def matters(web, marks, node):
    """Whether the answer at the node makes a difference to the mark of a pupil."""
    check_marks(web, marks)
    right, wrong = web[node][1:3]
    if node not in web.reached():
        raise NotReached(node)
    joint = Joint((web, web), ((wrong, right),))
    ends = _unlike(joint, marks, marks)
    if ends is None:
        return Answer(False, None, joint.states())
    # No question on the way to the node is asked behind it, so the two fit together.
    return Answer(True, pupil_to(web, node) | _pupil_of(joint, ends), None)


def without(web, node):
    """The web in which all that leads to the node leads to its right target instead."""
    right = web[node][1]
    nodes = []
    for row in web.nodes:
        targets = [right if target == node else target for target in row[1:]]
        nodes.append((row[0],) + tuple(targets))
    return Web(nodes, web.ends, start=right if web.start == node else web.start)
