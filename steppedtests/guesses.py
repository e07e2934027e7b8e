"""Guesses: when it is better to guess at a question than to skip it."""

from steppedtests.errors import NoSkip, NotComing, NotReached
from steppedtests.harms import told_rights
from steppedtests.joint import Joint
from steppedtests.ratios import Ratio
from steppedtests.walks import check_marks, end_of, pupil_to, walk


def _targets_of(web, marks, node):
    """The right, the wrong and the skip target of a node at which a guess is possible."""
    check_marks(web, marks)
    targets = web[node][1:]
    if node not in web.reached():
        raise NotReached(node)
    if len(targets) < 3:
        raise NoSkip(node)
    return targets


def _answer_to(right, wrong, skip):
    """For which chances of being right a guess is better than skipping, by the marks behind each."""
    if right > wrong:
        return ("above", Ratio(skip - wrong, right - wrong))
    if right < wrong:
        return ("below", Ratio(wrong - skip, wrong - right))
    return ("always",) if right > skip else ("never",)


def _answer_at(marks, ends):
    """The same, by the ends behind the right, the wrong and the skip target."""
    right, wrong, skip = ends
    return _answer_to(marks[right], marks[wrong], marks[skip])


def guess(web, marks, node, pupil):
    """For which chances of being right the pupil does better to guess at the node."""
    targets = _targets_of(web, marks, node)
    if node not in [place for place, _, _ in walk(web, pupil)]:
        raise NotComing(node)
    return _answer_at(marks, [end_of(web, pupil, target) for target in targets])


def guesses(web, marks, node):
    """The answers for all pupils who come to the node, as triples (ends, answer, pupil)."""
    targets = _targets_of(web, marks, node)
    joint = Joint((web, web, web), (targets,))
    coming = pupil_to(web, node)
    # No question on the way to the node is asked behind it, so the two fit together.
    return tuple([(ends, _answer_at(marks, ends), coming | told_rights(joint.trail(ends)[1]))
                  for ends in joint.finals()])
