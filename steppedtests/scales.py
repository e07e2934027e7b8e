"""Fair scales: marks by which no pupil loses by one more question."""

from steppedtests.errors import NoEnd
from steppedtests.harms import split_pair, split_walk
from steppedtests.pupils import QUESTIONS, is_question
from steppedtests.walks import check_marks, end_of, pupil_to, run_of


def arrows(web):
    """The pairs of different ends to which a pupil comes without and with a question."""
    return tuple([(e, f) for e, f in split_walk(web).finals() if e != f])


def _targets(web):
    """For each end the list of the ends to which an arrow leads from it."""
    targets = [[] for _ in range(web.ends)]
    for e, f in arrows(web):
        targets[e].append(f)
    return targets


def _led_from(targets, e):
    """The ends to which the end leads, as a dict of True."""
    found = {e: True}
    waiting = [e]
    while waiting:
        for f in targets[waiting.pop()]:
            if f not in found:
                found[f] = True
                waiting.append(f)
    return found


def rests(web):
    """The sets of ends that all lead to each other, as ascending tuples, in their order."""
    targets = _targets(web)
    led = [_led_from(targets, e) for e in range(web.ends)]
    waiting = []
    for e in range(web.ends):
        rest = tuple([f for f in range(web.ends) if f in led[e] and e in led[f]])
        if rest[0] == e:
            waiting.append(rest)
    ordered = []
    while waiting:
        first = _first_rest(waiting, led)
        ordered.append(first)
        waiting.remove(first)
    return tuple(ordered)


def _first_rest(waiting, led):
    """The first one of these rests to which no other one leads."""
    for rest in waiting:
        if not any([rest[0] in led[other[0]] for other in waiting if other != rest]):
            return rest
    return None


def is_fair(web, marks):
    """True if no arrow leads to an end with a lesser mark."""
    check_marks(web, marks)
    return all([marks[e] <= marks[f] for e, f in arrows(web)])


def fullest_scale(web):
    """Fair marks with as many different marks as possible."""
    numbers = {}
    for number, rest in enumerate(rests(web)):
        for e in rest:
            numbers[e] = number
    return tuple([numbers[e] for e in range(web.ends)])


def _check_ends(web, e, f):
    """Raise NoEnd for the first one that is no end."""
    for number in (e, f):
        if not 0 <= number < web.ends:
            raise NoEnd(number)


def parting_scale(web, e, f):
    """Fair marks that are lower for e than for f, or None if there are none."""
    _check_ends(web, e, f)
    led = _led_from(_targets(web), f)
    if e in led:
        return None
    return tuple([1 if end in led else 0 for end in range(web.ends)])


def ring(web, e, f):
    """A ring that holds, from e by f back to e, or None if there is none."""
    _check_ends(web, e, f)
    idle = _idle_pair(web, e) if e == f else None
    if idle is not None:
        return (idle,)
    joint = split_walk(web)
    pairs = joint.finals()
    there = _chain(pairs, e, f)
    back = [e] if e == f else _chain(pairs, f, e)
    if there is None or back is None:
        return None
    ends = there + back[1:]
    return tuple([split_pair(web, joint, pair) for pair in zip(ends, ends[1:])])


def _idle_pair(web, e):
    """A pupil who comes to e, and a question that this pupil is not asked; None if there is none."""
    # The way is a shortest one, so if all questions are asked on it, they are on each way.
    pupil = pupil_to(web, -1 - e)
    if pupil is None:
        return None
    asked = [question for question, _ in run_of(web, pupil)]
    for question in range(QUESTIONS):
        if question not in asked:
            return (pupil, question)
    return None


def _chain(pairs, e, f):
    """The ends on a shortest way by at least one of the pairs from e to f, or None."""
    before = {}
    waiting = [e]
    while waiting and f not in before:
        end = waiting.pop(0)
        for low, high in pairs:
            if low == end and high not in before:
                before[high] = end
                waiting.append(high)
    if f not in before:
        return None
    ends = [before[f], f]
    while ends[0] != e:
        ends.insert(0, before[ends[0]])
    return ends


def ring_holds(web, ring):
    """True if the end of each pupil with the question is the end of the next pupil."""
    if len(ring) == 0:
        return False
    for pupil, question in ring:
        if not is_question(question) or question in pupil:
            return False
    ends = [end_of(web, pupil) for pupil, _ in ring]
    behind = [end_of(web, pupil.added(question)) for pupil, question in ring]
    return behind == ends[1:] + ends[:1]
