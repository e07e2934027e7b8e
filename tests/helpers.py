"""What several tests need: webs, slow and plain answers to compare with, and a time limit."""

import itertools
import random
import signal
from contextlib import contextmanager
from fractions import Fraction

from steppedtests.joint import Joint
from steppedtests.ratios import Ratio
from steppedtests.webs import Web


@contextmanager
def at_once(seconds=10):
    """Fail if the rows take longer: following each of very many ways would never end."""
    def late(number, frame):
        raise AssertionError(f"no answer within {seconds} seconds")

    before = signal.signal(signal.SIGALRM, late)
    signal.alarm(seconds)
    try:
        yield
    finally:
        signal.alarm(0)
        signal.signal(signal.SIGALRM, before)


def layered(layers, width, ends):
    """Nodes in layers; the layer asks its own number, and each node leads to two of the next one."""
    nodes = []
    for layer in range(layers):
        for k in range(width):
            if layer == layers - 1:
                targets = [-1 - k % ends, -1 - (k + 1) % ends]
            else:
                below = (layer + 1) * width
                targets = [below + k, below + (k + 1) % width]
            nodes.append((layer, *targets))
    return nodes


def with_skips(nodes):
    """The same nodes, each with a skip to its wrong target."""
    return [(question, right, wrong, wrong) for question, right, wrong in nodes]


def random_nodes(chance, many, ends, questions):
    """Nodes with fitting targets; a question may be asked twice."""
    nodes = []
    for k in range(many):
        places = list(range(-ends, 0)) + list(range(k + 1, many))
        targets = [chance.choice(places) for _ in range(chance.choice([2, 3]))]
        nodes.append((chance.randrange(questions), *targets))
    return nodes


def random_cases(seed, number):
    """Triples (nodes, ends, start) of small webs; some ask a question twice."""
    chance = random.Random(seed)
    for _ in range(number):
        many, ends = chance.randrange(0, 8), chance.randrange(1, 5)
        nodes = random_nodes(chance, many, ends, chance.choice([4, 12, 48]))
        yield nodes, ends, chance.randrange(-ends, many)


def asked_behind(nodes, k):
    """The questions of all nodes on ways behind node k, found by following each way."""
    found = set()
    for target in nodes[k][1:]:
        if target >= 0:
            found |= {nodes[target][0]} | asked_behind(nodes, target)
    return found


def least_twice(nodes):
    """The least node whose question is asked again behind it, or None."""
    for k, node in enumerate(nodes):
        if node[0] in asked_behind(nodes, k):
            return k
    return None


def led_to(nodes, position):
    """The positions that right and wrong targets lead to, found by following each way."""
    if position < 0:
        return {position}
    _, right, wrong = nodes[position][:3]
    return {position} | led_to(nodes, right) | led_to(nodes, wrong)


def steps_of(nodes, rights, position):
    """The triples of a walk and its end position, found by following the document's words."""
    if position < 0:
        return [], position
    question, right, wrong = nodes[position][:3]
    answer = int(question in rights)
    rest, end = steps_of(nodes, rights, right if answer else wrong)
    return [(position, question, answer), *rest], end


def small_nodes(chance, many, ends, questions, lengths):
    """Nodes none of whose questions is asked twice on a way, from the last one to the first."""
    nodes, behind = [None] * many, [set() for _ in range(many)]
    for k in reversed(range(many)):
        # Near targets come several times, so that most nodes are reached.
        places = list(range(-ends, 0)) + 4 * list(range(k + 1, min(k + 4, many)))
        targets = [chance.choice(places) for _ in range(chance.choice(lengths))]
        asked = set().union(*[behind[place] for place in targets if place >= 0])
        if len(asked) == questions:
            targets, asked = [chance.randrange(-ends, 0) for _ in targets], set()
        question = chance.choice([question for question in range(questions) if question not in asked])
        nodes[k], behind[k] = (question, *targets), asked | {question}
    return nodes


def small_webs(seed, number, *, most=8, ends=4, questions=5, skips=True):
    """Small webs with few different questions, so that two webs ask many in common."""
    chance = random.Random(seed)
    for _ in range(number):
        many, count = chance.randrange(0, most + 1), chance.choice([1, *range(2, ends + 1), ends])
        nodes = small_nodes(chance, many, count, questions, [2, 2, 3] if skips else [2])
        start = chance.choice([None, None, None, None, None, chance.randrange(-count, many)])
        yield Web(nodes, count, start=start)


def small_grids(seed, number, *, layers=4, width=3, ends=4):
    """Webs in layers, each of which asks a question of its own; all nodes are near each other."""
    chance = random.Random(seed)
    for _ in range(number):
        nodes = []
        for layer in range(layers):
            below = range((layer + 1) * width, (layer + 2) * width)
            places = list(below) if layer < layers - 1 else list(range(-ends, 0))
            for _ in range(width):
                nodes.append((layer, chance.choice(places), chance.choice(places + [-1])))
        yield Web(nodes, ends)


def subsets(questions):
    """All sets of these questions, as ascending tuples."""
    for size in range(len(questions) + 1):
        yield from itertools.combinations(sorted(questions), size)


def all_questions(*webs):
    """All questions of the nodes of these webs, ascending."""
    return sorted({node[0] for web in webs for node in web.nodes})


def end_by_words(web, rights, position=None):
    """The number of the end of a walk, found by following the document's words."""
    start = web.start if position is None else position
    return -1 - steps_of(web.nodes, rights, start)[1]


def ends_of_all(web):
    """The ends of all pupils who answer some of the web's questions right, by their rights."""
    return {rights: end_by_words(web, rights) for rights in subsets(all_questions(web))}


def pairs_by_words(web):
    """All (rights, question) of pupils and one more question, of those that the web's nodes ask."""
    questions = all_questions(web)
    for rights in subsets(questions):
        for question in questions:
            if question not in rights:
                yield rights, question


def end_pairs(web):
    """The pairs of ends of all pupils and them with one more question that they are asked."""
    found = set()
    for rights, question in pairs_by_words(web):
        asked = [step[1] for step in steps_of(web.nodes, rights, web.start)[0]]
        if question in asked:
            found.add((end_by_words(web, rights), end_by_words(web, (*rights, question))))
    return found


def random_marks(chance, count):
    """Marks of several kinds: few different ones, below 0, of 20 digits, or all alike."""
    kind = chance.randrange(4)
    if kind == 0:
        return [chance.randrange(3) for _ in range(count)]
    if kind == 1:
        return tuple(chance.randrange(-9, 10) for _ in range(count))
    if kind == 2:
        return [chance.choice([-1, 1]) * chance.randrange(10 ** 19, 10 ** 20) for _ in range(count)]
    return (chance.randrange(-2, 3),) * count


def turned(web, seed):
    """The web with its questions exchanged, so that it asks them in another order."""
    order = list(range(48))
    random.Random(seed).shuffle(order)
    return Web([(order[node[0]], *node[1:]) for node in web.nodes], web.ends, start=web.start)


def shuffled_layers(layers, width, ends, seed):
    """A web in layers that ask 0 to layers - 1 in a random order."""
    order = list(range(layers))
    random.Random(seed).shuffle(order)
    return Web([(order[node[0]], *node[1:]) for node in layered(layers, width, ends)], ends)


def forced_by_words(relation, answers, walker):
    """The answer that an entry forces of a walker, by point 14; None if it forces none."""
    if answers[walker] != -1:
        return None
    if relation == "same":
        return next((answer for answer in answers if answer != -1), None)
    if walker == 1:
        return 1 if answers[0] == 1 else None
    return 0 if answers[1] == 0 else None


def steps_by_words(webs, relation, state):
    """The steps from a state, by points 13 to 15."""
    positions, memory = state
    nodes = [place for place in positions if place >= 0]
    if not nodes:
        return ()
    i = positions.index(min(nodes))
    u, right, wrong = webs[i].nodes[positions[i]][:3]
    entries = dict(memory)
    forced = forced_by_words(relation, entries[u], i) if u in entries else None
    steps = []
    for answer in (0, 1) if forced is None else (forced,):
        moved = list(positions)
        moved[i] = right if answer else wrong
        told = dict(entries)
        answers = list(told.get(u, [-1] * len(webs)))
        answers[i] = answer
        told[u] = tuple(answers)
        kept = [(q, told[q]) for q in sorted(told) if is_needed(webs, relation, moved, q, told[q])]
        steps.append((answer, (tuple(moved), tuple(kept))))
    return tuple(steps)


def is_needed(webs, relation, positions, question, answers):
    for k, web in enumerate(webs):
        asked = {web.nodes[place][0] for place in led_to(web.nodes, positions[k]) if place >= 0}
        if question in asked and forced_by_words(relation, answers, k) is not None:
            return True
    return False


def places(web):
    return range(-web.ends, len(web))


def small_joints(seed, number, walkers, relation="same", skips=True):
    """Joint walks of small webs, sometimes all the same one, from some starts."""
    chance = random.Random(seed)
    webs = list(small_webs(seed, 3 * number, questions=4, most=6, skips=skips))
    for k in range(number):
        group = webs[3 * k:3 * k + walkers]
        if chance.randrange(3) == 0:
            group = group[:1] * walkers
        starts = [tuple(web.start for web in group)]
        for _ in range(chance.randrange(3)):
            starts.append(tuple(chance.choice(places(web)) for web in group))
        yield Joint(group, starts, relation=relation)


def random_state(chance, joint):
    """Any tuple of the shape of a state, whether steps lead to it or not."""
    positions = tuple(chance.choice(places(web)) for web in joint.webs)
    questions = sorted(chance.sample(range(6), chance.randrange(5)))
    answers = [tuple(chance.choice((-1, 0, 1)) for _ in joint.webs) for _ in questions]
    return positions, tuple(zip(questions, answers))


def fraction_of(ratio):
    return Fraction(ratio.top, ratio.bottom)


def ratio_of_fraction(value):
    return Ratio(value.numerator, value.denominator)


def ratios_of(fractions):
    return {question: ratio_of_fraction(value) for question, value in fractions.items()}


def random_chances(chance, questions, most=12):
    """A chance for each question; some are 0 or 1."""
    found = {}
    for question in questions:
        bottom = chance.randrange(1, most)
        found[question] = Fraction(chance.randrange(bottom + 1), bottom)
    return found


def weighed(web, fractions, value):
    """The mean of the value of all pupils' rights, each weighed by its chance."""
    total = Fraction(0)
    for rights in subsets(fractions):
        weight = Fraction(1)
        for question, part in fractions.items():
            weight *= part if question in rights else 1 - part
        total += weight * value(rights)
    return total


def mean_by_pupils(web, marks, fractions):
    return weighed(web, fractions, lambda rights: marks[end_by_words(web, rights)])


def length_by_pupils(web, fractions):
    return weighed(web, fractions, lambda rights: len(steps_of(web.nodes, rights, web.start)[0]))
