"""What several tests need: webs, slow and plain answers to compare with, and a time limit."""

import random
import signal
from contextlib import contextmanager


@contextmanager
def at_once(seconds=10):
    """Fail if the rows take longer: following each of very many ways would never end."""
    def late(number, frame):
        raise AssertionError(f"no answer within {seconds} seconds")

    before = signal.signal(signal.SIGALRM, late)
    signal.alarm(seconds)
    try:
        yield
    finally:
        signal.alarm(0)
        signal.signal(signal.SIGALRM, before)


def layered(layers, width, ends):
    """Nodes in layers; the layer asks its own number, and each node leads to two of the next one."""
    nodes = []
    for layer in range(layers):
        for k in range(width):
            if layer == layers - 1:
                targets = [-1 - k % ends, -1 - (k + 1) % ends]
            else:
                below = (layer + 1) * width
                targets = [below + k, below + (k + 1) % width]
            nodes.append((layer, *targets))
    return nodes


def with_skips(nodes):
    """The same nodes, each with a skip to its wrong target."""
    return [(question, right, wrong, wrong) for question, right, wrong in nodes]


def random_nodes(chance, many, ends, questions):
    """Nodes with fitting targets; a question may be asked twice."""
    nodes = []
    for k in range(many):
        places = list(range(-ends, 0)) + list(range(k + 1, many))
        targets = [chance.choice(places) for _ in range(chance.choice([2, 3]))]
        nodes.append((chance.randrange(questions), *targets))
    return nodes


def random_cases(seed, number):
    """Triples (nodes, ends, start) of small webs; some ask a question twice."""
    chance = random.Random(seed)
    for _ in range(number):
        many, ends = chance.randrange(0, 8), chance.randrange(1, 5)
        nodes = random_nodes(chance, many, ends, chance.choice([4, 12, 48]))
        yield nodes, ends, chance.randrange(-ends, many)


def asked_behind(nodes, k):
    """The questions of all nodes on ways behind node k, found by following each way."""
    found = set()
    for target in nodes[k][1:]:
        if target >= 0:
            found |= {nodes[target][0]} | asked_behind(nodes, target)
    return found


def least_twice(nodes):
    """The least node whose question is asked again behind it, or None."""
    for k, node in enumerate(nodes):
        if node[0] in asked_behind(nodes, k):
            return k
    return None


def led_to(nodes, position):
    """The positions that right and wrong targets lead to, found by following each way."""
    if position < 0:
        return {position}
    _, right, wrong = nodes[position][:3]
    return {position} | led_to(nodes, right) | led_to(nodes, wrong)


def steps_of(nodes, rights, position):
    """The triples of a walk and its end position, found by following the document's words."""
    if position < 0:
        return [], position
    question, right, wrong = nodes[position][:3]
    answer = int(question in rights)
    rest, end = steps_of(nodes, rights, right if answer else wrong)
    return [(position, question, answer), *rest], end
