"""Harm: better pupils with lesser marks, and how much less they can be."""

from steppedtests.joint import Joint
from steppedtests.pupils import Pupil
from steppedtests.walks import check_marks, pupil_to


class Answer:
    """What was found, with a pupil who shows it or a paper that shows that there is none."""

    def __init__(self, found, witness, paper):
        self.found = found
        self.witness = witness
        self.paper = paper

    def __bool__(self):
        return bool(self.found)


def splits(web):
    """The pairs (wrong target, right target) of the reached nodes, by ascending node."""
    return tuple([(web[k][2], web[k][1]) for k in web.reached()])


def harmless(marks):
    """The ascending pairs of ends whose first mark is not above the second one."""
    ends = range(len(marks))
    return tuple([(e, f) for e in ends for f in ends if marks[e] <= marks[f]])


def split_walk(web):
    """The joint walk of the splits: of a pupil without a question, and with it."""
    return Joint((web, web), splits(web))


def split_pair(web, joint, ends):
    """A pupil and a question that lead to these ends, a final of the joint walk of the splits."""
    number, steps = joint.trail(ends)
    node = web.reached()[number]
    # No question on the way to the node is asked behind it, so the two fit together.
    return (pupil_to(web, node) | told_rights(steps), web[node][0])


def told_rights(steps):
    """The pupil who answers right what some walker of the trail answers right."""
    return Pupil([question for _, question, answer in steps if answer == 1])


def greatest_final(joint, value):
    """The greatest value of a final, with this final; None if there is no final."""
    best = None
    for ends in joint.finals():
        number = value(ends)
        if best is None or number > best[0]:
            best = (number, ends)
    return best


def harm(web, marks):
    """Whether a pupil can get a lesser mark with one more question."""
    check_marks(web, marks)
    joint = split_walk(web)
    for e, f in joint.finals():
        if marks[e] > marks[f]:
            return Answer(True, split_pair(web, joint, (e, f)), None)
    return Answer(False, None, joint.states())


def greatest_fall(web, marks):
    """The most that one more question takes from a mark, with a pupil and this question."""
    check_marks(web, marks)
    return _greatest_split(web, lambda ends: marks[ends[0]] - marks[ends[1]])


def greatest_rise(web, marks):
    """The most that one more question adds to a mark, with a pupil and this question."""
    check_marks(web, marks)
    return _greatest_split(web, lambda ends: marks[ends[1]] - marks[ends[0]])


def _greatest_split(web, value):
    """The greatest value of a final of the splits, with a pupil and a question who have it."""
    joint = split_walk(web)
    best = greatest_final(joint, value)
    if best is None:
        return None
    return (best[0], split_pair(web, joint, best[1]))


def widest_fall(web, marks):
    """The most by which a better pupil's mark is less, with both pupils."""
    check_marks(web, marks)
    joint = Joint((web, web), ((web.start, web.start),), relation="within")
    number, ends = greatest_final(joint, lambda pair: marks[pair[0]] - marks[pair[1]])
    steps = joint.trail(ends)[1]
    lesser = Pupil([question for walker, question, answer in steps if walker == 0 and answer == 1])
    # Where only the lesser pupil is asked, the better one must have the question too.
    return (number, (lesser, told_rights(steps)))
