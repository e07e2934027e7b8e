"""Walks: the ways of pupils through a web, and the marks that they come to."""

from steppedtests.errors import BadMarks, NoPosition
from steppedtests.pupils import Pupil


def walk(web, pupil, start=None):
    """Yield a triple (node, question, answer) for each node on the pupil's walk."""
    place = _begin(web, start)
    while place >= 0:
        question = web[place][0]
        answer = 1 if question in pupil else 0
        yield (place, question, answer)
        place = target_of(web[place], answer)


def _begin(web, start):
    """The position that a walk begins at."""
    place = web.start if start is None else start
    if place not in web:
        raise NoPosition(place)
    return place


def target_of(node, answer):
    """The target that the answer 1 (right) or 0 (wrong) leads to."""
    return node[1] if answer == 1 else node[2]


def run_of(web, pupil):
    """The pairs (question, answer) of the pupil's walk from the start."""
    return tuple([(question, answer) for node, question, answer in walk(web, pupil)])


def end_of(web, pupil, start=None):
    """The number of the end of the pupil's walk."""
    place = _begin(web, start)
    for node, question, answer in walk(web, pupil, start):
        place = target_of(web[node], answer)
    return -1 - place


def check_marks(web, marks):
    """Raise BadMarks if there are not as many marks as ends."""
    if len(marks) != web.ends:
        raise BadMarks(len(marks))


def mark_of(web, marks, pupil):
    """The mark of the end of the pupil's walk from the start."""
    check_marks(web, marks)
    return marks[end_of(web, pupil)]


def pupil_to(web, position):
    """A pupil who comes to the position on a shortest way, or None if nobody does."""
    # Targets have greater numbers, so a node's own way is known when its turn comes.
    ways = {web.start: (0, ())}
    for k in web.reached():
        question, right, wrong = web[k][:3]
        length, rights = ways[k]
        for target, found in ((right, rights + (question,)), (wrong, rights)):
            if target not in ways or length + 1 < ways[target][0]:
                ways[target] = (length + 1, found)
    return Pupil(ways[position][1]) if position in ways else None
