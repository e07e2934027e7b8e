"""Least questions: how few of them tell classes of pupils, and why fewer cannot."""

from steppedtests.errors import AlikePupils, BadLength, NoPupils
from steppedtests.shapes import are_numbers, ascends, is_number, is_pair


def depth(tree):
    """The most questions that the tree asks on a way."""
    number = 0
    level = _parts_below([tree])
    while level:
        number += 1
        level = _parts_below(level)
    return number


def _parts_below(level):
    """The parts of all those of these trees that ask."""
    return [part for tree in level if tree[0] == "ask" for part in tree[2:]]


def tells(pupils, classes, questions, tree):
    """True if the tree asks the given questions only and leads each pupil to the own class."""
    if not _is_tree(questions, tree):
        return False
    return all([_class_by(tree, pupil) == own for pupil, own in zip(pupils, classes)])


def _is_tree(questions, tree):
    """True if the value has the shape of a tree that asks these questions only."""
    waiting = [tree]
    while waiting:
        part = waiting.pop()
        if _asks(questions, part):
            waiting.append(part[2])
            waiting.append(part[3])
        elif not _is_class(part):
            return False
    return True


def _is_class(part):
    """True if the value has the shape of a tree that is only a class."""
    return is_pair(part) and part[0] == "class" and is_number(part[1])


def _asks(questions, part):
    """True if the value begins as a tree does that asks one of the questions."""
    if not isinstance(part, tuple) or len(part) != 4 or part[0] != "ask":
        return False
    return is_number(part[1]) and part[1] in questions


def _class_by(tree, pupil):
    """The class to which the tree leads the pupil."""
    part = tree
    while part[0] == "ask":
        part = part[2] if part[1] in pupil else part[3]
    return part[1]


class Roster:
    """The pupils, their classes and the questions. A group is a tuple of pupils' numbers."""

    def __init__(self, pupils, classes, questions):
        self.pupils = tuple(pupils)
        self.classes = tuple(classes)
        self.questions = tuple(questions)

    def everybody(self):
        """The group of all pupils."""
        return tuple(range(len(self.pupils)))

    def is_mixed(self, group):
        """True if the group has pupils of two classes."""
        return len(set([self.classes[k] for k in group])) > 1

    def parted(self, group, question):
        """Those of the group who answer the question right, and those who answer it wrong."""
        right = tuple([k for k in group if question in self.pupils[k]])
        wrong = tuple([k for k in group if question not in self.pupils[k]])
        return right, wrong

    def partings(self, group):
        """The triples (question, right, wrong) for the questions that some of the group fail and some not."""
        triples = [(question,) + self.parted(group, question) for question in self.questions]
        return [triple for triple in triples if triple[1] and triple[2]]


def _check(roster):
    """Raise the first error that is due for the pupils and their classes."""
    if not roster.pupils:
        raise NoPupils()
    if len(roster.classes) != len(roster.pupils):
        raise BadLength(len(roster.classes))
    for first in roster.everybody():
        for second in range(first + 1, len(roster.pupils)):
            pair = (first, second)
            if roster.is_mixed(pair) and not roster.partings(pair):
                raise AlikePupils(first, second)


def least_questions(pupils, classes, questions):
    """The least depth of a tree that tells the classes, this tree, and a table that shows it."""
    roster = Roster(pupils, classes, questions)
    _check(roster)
    known = {}
    number, tree = _least(roster, roster.everybody(), known)
    return (number, tree, tuple([(group, known[group][0]) for group in known if known[group][0] > 0]))


def _least(roster, group, known):
    """The pair (least depth, tree) for the group. known keeps the pairs of all groups on the way."""
    if group not in known:
        known[group] = _least_of_parts(roster, group, known)
    return known[group]


def _least_of_parts(roster, group, known):
    """The same, found by trying each question that parts the group."""
    if not roster.is_mixed(group):
        return (0, ("class", roster.classes[group[0]]))
    best = None
    for question, right, wrong in roster.partings(group):
        knowing = _least(roster, right, known)
        failing = _least(roster, wrong, known)
        number = 1 + max(int(knowing[0]), int(failing[0]))
        if best is None or number < best[0]:
            best = (number, ("ask", question, knowing[1], failing[1]))
    return best


def bound_holds(pupils, classes, questions, table, n):
    """True if the table is good and shows that a tree needs a depth of at least n."""
    roster = Roster(pupils, classes, questions)
    if not _is_table(roster, table):
        return False
    numbers = {}
    for group, number in table:
        if group not in numbers or number > numbers[group]:
            numbers[group] = number
    if not all([_is_good(roster, numbers, group, number) for group, number in table]):
        return False
    return n == 0 or numbers.get(roster.everybody(), 0) >= n


def _is_table(roster, table):
    """True if the value has the shape of a table of groups of these pupils."""
    return isinstance(table, tuple) and all([is_pair(pair) and _is_row(roster, pair) for pair in table])


def _is_row(roster, pair):
    """True if the pair has the shape of a group and a number."""
    group, number = pair
    if not are_numbers(group) or not ascends(group) or not is_number(number) or number < 1:
        return False
    return all([0 <= k < len(roster.pupils) for k in group])


def _is_good(roster, numbers, group, number):
    """True if the group needs so many questions, provided that the numbers of its parts hold."""
    if not roster.is_mixed(group):
        return False
    for _, right, wrong in roster.partings(group):
        if numbers.get(right, 0) < number - 1 and numbers.get(wrong, 0) < number - 1:
            return False
    return True
