import copy
import random
import unittest

from helpers import (all_questions, at_once, end_by_words, layered, led_to, random_marks, shuffled_layers, small_grids,
                     small_webs, steps_of, subsets, turned)
from steppedtests.comparing import alike, matters, widest_difference, without
from steppedtests.errors import BadMarks, NoNode, NotReached
from steppedtests.harms import Answer
from steppedtests.joint import Joint
from steppedtests.papers import accepts
from steppedtests.pupils import Pupil
from steppedtests.walks import end_of, mark_of
from steppedtests.webs import Web

WEB = Web([(1, 1, 2), (2, -1, -2), (2, -3, -4)], 4)
BACK = Web([(2, 1, 2), (1, -1, -3), (1, -2, -4)], 4)


def equal_pairs(marks, others):
    """All pairs of ends of equal marks."""
    return tuple((e, f) for e in range(len(marks)) for f in range(len(others)) if marks[e] == others[f])


def differences(first, marks, second, others):
    """The difference of the marks of each pupil, without its sign."""
    for rights in subsets(all_questions(first, second)):
        yield abs(marks[end_by_words(first, rights)] - others[end_by_words(second, rights)])


def with_idle_node(web, question):
    """An alike web that asks one more question first, to no effect."""
    nodes = [(node[0], *[place + 1 if place >= 0 else place for place in node[1:]]) for node in web.nodes]
    start = web.start + 1 if web.start >= 0 else web.start
    return Web([(question, start, start), *nodes], web.ends)


def cases(seed, number):
    """Two webs with marks: others, the same one, one that asks more, and one with other questions."""
    chance = random.Random(seed)
    webs = (*small_webs(seed, number // 2, questions=4), *small_grids(seed, number // 4, layers=3))
    for k, web in enumerate(webs):
        kind = k % 5
        if kind == 0:
            other = chance.choice(webs)
        elif kind == 1:
            other = web
        elif kind == 2:
            other = with_idle_node(web, 20)
        elif kind == 3:
            other = turned(web, k)
        else:
            other = Web(web.nodes, web.ends + 2, start=web.start)
        marks = random_marks(chance, web.ends)
        others = random_marks(chance, other.ends)
        if chance.randrange(2) and other.ends >= web.ends:
            others = list(marks) + [7] * (other.ends - web.ends)
        yield web, marks, other, others


class Marks(unittest.TestCase):
    def test_the_first_web_comes_first(self):
        small = Web([(1, -1, -2)], 2)
        for function in (alike, widest_difference):
            for first, marks, second, others, count in (
                    (WEB, [0] * 3, small, [0] * 2, 3), (WEB, [0] * 4, small, [0] * 3, 3),
                    (WEB, [0] * 5, small, [0] * 3, 5), (small, [], WEB, [0], 0), (small, [0, 0], WEB, (), 0),
                    (WEB, [0] * 2, small, [0] * 4, 2)):
                with self.subTest((marks, others)), self.assertRaises(BadMarks) as caught:
                    function(first, marks, second, others)
                self.assertEqual(caught.exception.count, count)

    def test_lists_stay(self):
        marks, others = [3, 1, 2, 0], [0, 1, 2, 3]
        for function in (alike, widest_difference):
            function(WEB, marks, BACK, others)
        matters(WEB, marks, 1)
        self.assertEqual((marks, others), ([3, 1, 2, 0], [0, 1, 2, 3]))


class Alike(unittest.TestCase):
    def check(self, first, marks, second, others):
        answer = alike(first, marks, second, others)
        self.assertIsInstance(answer, Answer)
        self.assertIs(answer.found, any(differences(first, marks, second, others)))
        if answer.found:
            self.assertIsNone(answer.paper)
            pupil = answer.witness
            self.assertIsInstance(pupil, Pupil)
            self.assertNotEqual(mark_of(first, marks, pupil), mark_of(second, others, pupil))
        else:
            self.assertIsNone(answer.witness)
            joint = Joint((first, second), [(first.start, second.start)])
            self.assertIs(accepts(joint, answer.paper, equal_pairs(marks, others)), True)
        return answer.found

    def test_other_orders_of_questions(self):
        for marks, others, unlike in (([3, 2, 1, 0], [3, 2, 1, 0], False), ([3, 2, 1, 0], [3, 1, 2, 0], True),
                                      ([5, 5, 5, 4], (5, 5, 5, 4), False), ([5, 5, 5, 4], [5, 5, 5, 3], True),
                                      ([10 ** 20, -1, -1, -10 ** 20], [10 ** 20, -1, -1, 1 - 10 ** 20], True)):
            self.assertIs(self.check(WEB, marks, BACK, others), unlike)

    def test_other_numbers_of_ends(self):
        two, five = Web([(1, -1, -2)], 2), Web([(1, -5, -3)], 5)
        self.assertFalse(self.check(two, [4, -4], five, [0, 1, -4, 3, 4]))
        self.assertTrue(self.check(two, [4, -4], five, [0, 1, 4, 3, -4]))

    def test_other_questions(self):
        one, two = Web([(1, -1, -2)], 2), Web([(2, -1, -2)], 2)
        self.assertTrue(self.check(one, [1, 0], two, [1, 0]))
        self.assertFalse(self.check(one, [3, 3], two, [3, 3]))

    def test_a_web_with_itself(self):
        for web in (WEB, BACK, Web([], 3, start=-2), Web([(1, -1, -2), (2, -1, -2)], 2, start=1)):
            marks = list(range(web.ends))
            self.assertFalse(self.check(web, marks, web, marks))

    def test_starts(self):
        third = Web(WEB.nodes, 4, start=2)
        self.assertTrue(self.check(WEB, [0, 1, 2, 3], third, [0, 1, 2, 3]))
        self.assertFalse(self.check(WEB, [2, 3, 2, 3], third, [0, 1, 2, 3]))
        self.assertTrue(self.check(Web([], 2), [1, 0], Web([], 2, start=-2), [1, 0]))

    def test_small_webs(self):
        found = [self.check(*case) for case in cases(1, 400)]
        self.assertGreater(found.count(True), 50)
        self.assertGreater(found.count(False), 50)


class Widest(unittest.TestCase):
    def check(self, first, marks, second, others):
        told = widest_difference(first, marks, second, others)
        self.assertIsInstance(told, tuple)
        number, pupil = told
        self.assertEqual(number, max(differences(first, marks, second, others)))
        self.assertEqual(abs(mark_of(first, marks, pupil) - mark_of(second, others, pupil)), number)
        return number

    def test_by_hand(self):
        for marks, others, wanted in (([3, 2, 1, 0], [3, 2, 1, 0], 0), ([3, 2, 1, 0], [3, 1, 2, 0], 1),
                                      ([0, 0, 0, 0], [-1, 2, 3, -4], 4), ([-1, 2, 3, -4], (0, 0, 0, 0), 4),
                                      ([10 ** 20] * 4, [-10 ** 20] * 4, 2 * 10 ** 20)):
            self.assertEqual(self.check(WEB, marks, BACK, others), wanted)

    def test_ends_that_nobody_comes_to_do_not_count(self):
        self.assertEqual(self.check(Web([], 3), [1, 90, 90], Web([(1, -2, -2)], 3), [-90, 2, -90]), 1)

    def test_small_webs(self):
        for case in cases(2, 400):
            self.check(*case)


class Matters(unittest.TestCase):
    def check(self, web, marks, node):
        """Compare with the marks of all pupils behind both targets of the node."""
        question, right, wrong = web.nodes[node][:3]
        every = list(subsets(all_questions(web)))
        unlike = any(marks[end_by_words(web, rights, right)] != marks[end_by_words(web, rights, wrong)]
                     for rights in every)
        answer = matters(web, marks, node)
        self.assertIsInstance(answer, Answer)
        self.assertIs(answer.found, unlike)
        if answer.found:
            self.assertIsNone(answer.paper)
            pupil = answer.witness
            self.assertIn(node, [step[0] for step in steps_of(web.nodes, pupil.rights, web.start)[0]])
            self.assertNotEqual(marks[end_of(web, pupil, right)], marks[end_of(web, pupil, wrong)])
        else:
            self.assertIsNone(answer.witness)
            joint = Joint((web, web), [(wrong, right)])
            self.assertIs(accepts(joint, answer.paper, equal_pairs(marks, marks)), True)
        return answer.found

    def test_by_hand(self):
        for marks, wanted in (([0, 1, 2, 3], [True, True, True]), ([0, 1, 0, 1], [False, True, True]),
                              ([0, 0, 1, 1], [True, False, False]), ([4, 4, 4, 4], [False, False, False]),
                              ([0, 0, 0, 1], [True, False, True])):
            self.assertEqual([self.check(WEB, marks, node) for node in range(3)], wanted)

    def test_small_webs(self):
        chance = random.Random(3)
        found = []
        for web in (*small_webs(3, 200), *small_grids(3, 60)):
            marks = random_marks(chance, web.ends)
            reached = {place for place in led_to(web.nodes, web.start) if place >= 0}
            for node in range(len(web)):
                if node in reached:
                    found.append(self.check(web, marks, node))
                else:
                    with self.assertRaises(NotReached) as caught:
                        matters(web, marks, node)
                    self.assertEqual(caught.exception.index, node)
        self.assertGreater(found.count(True), 100)
        self.assertGreater(found.count(False), 100)

    def test_not_reached(self):
        web = Web([(1, -1, -2), (2, 3, 3, 2), (3, -1, -2), (4, -1, -2)], 2, start=1)
        for node in (0, 2):
            with self.assertRaises(NotReached) as caught:
                matters(web, [0, 1], node)
            self.assertEqual(caught.exception.index, node)
        self.assertFalse(self.check(web, [0, 1], 1))
        self.assertTrue(self.check(web, [0, 1], 3))

    def test_no_node(self):
        for web in (WEB, Web([], 4)):
            for node in (-1, -2, len(web), len(web) + 1, 10 ** 9, -10 ** 9):
                with self.subTest(node), self.assertRaises(NoNode) as caught:
                    matters(web, [0] * 4, node)
                self.assertEqual(caught.exception.index, node)

    def test_marks_come_first(self):
        web = Web(WEB.nodes, 4, start=1)
        for node in (0, 1, 2, 3, -1, 99):
            for count in (0, 3, 5):
                with self.subTest(node), self.assertRaises(BadMarks) as caught:
                    matters(web, [0] * count, node)
                self.assertEqual(caught.exception.count, count)

    def test_questions_on_the_way_to_the_node(self):
        web = Web([(10, 1, -1), (11, -1, 2), (12, 3, -1), (13, 4, -3), (14, -2, -3)], 3)
        answer = matters(web, [0, 1, 0], 3)
        self.assertEqual((answer.found, answer.witness), (True, Pupil([10, 12, 14])))
        self.check(web, [0, 1, 0], 3)


class Without(unittest.TestCase):
    NODES = [(1, 1, 2, 3), (2, 3, 3, 3), (3, -1, 3), (4, 4, -2, -3), (5, -1, -2)]

    def test_right_wrong_and_skip_targets(self):
        web = Web(self.NODES, 3)
        self.assertEqual(without(web, 3).nodes, ((1, 1, 2, 4), (2, 4, 4, 4), (3, -1, 4), (4, 4, -2, -3), (5, -1, -2)))
        self.assertEqual(without(web, 1).nodes, ((1, 3, 2, 3),) + web.nodes[1:])
        self.assertEqual(without(web, 2).nodes, ((1, 1, -1, 3),) + web.nodes[1:])
        self.assertEqual(without(web, 4).nodes, web.nodes[:3] + ((4, -1, -2, -3), (5, -1, -2)))
        for node in range(1, 5):
            self.assertEqual((without(web, node).start, without(web, node).ends), (0, 3))

    def test_the_start(self):
        web = Web(self.NODES, 3)
        self.assertEqual(without(web, 0), Web(self.NODES, 3, start=1))
        self.assertEqual(without(Web(self.NODES, 3, start=3), 3).start, 4)
        self.assertEqual(without(Web(self.NODES, 3, start=4), 4).start, -1)
        self.assertEqual(without(Web(self.NODES, 3, start=-2), 3).start, -2)

    def test_a_node_that_nothing_leads_to(self):
        web = Web(self.NODES, 3, start=1)
        self.assertEqual(without(web, 0), web)
        self.assertEqual(web, Web(self.NODES, 3, start=1))

    def test_no_node(self):
        for web in (WEB, Web([], 2)):
            for node in (-1, len(web), 10 ** 9):
                with self.subTest(node), self.assertRaises(NoNode) as caught:
                    without(web, node)
                self.assertEqual(caught.exception.index, node)

    def test_small_webs(self):
        chance = random.Random(4)
        for web in small_webs(4, 150):
            before = copy.deepcopy(web)
            marks = random_marks(chance, web.ends)
            for node in range(len(web)):
                made = without(web, node)
                self.assertEqual((len(made), made.ends), (len(web), web.ends))
                for rights in subsets(all_questions(web)):
                    with_it = (*rights, web.nodes[node][0])
                    comes = node in [step[0] for step in steps_of(web.nodes, rights, web.start)[0]]
                    wanted = end_by_words(web, with_it if comes else rights)
                    self.assertEqual(end_by_words(made, rights), wanted)
                if node in web.reached() and not matters(web, marks, node):
                    self.assertFalse(alike(web, marks, made, marks))
            self.assertEqual(web, before)


class Large(unittest.TestCase):
    def test_many_nodes(self):
        web = Web(layered(48, 4, 8), 8)
        marks = [10 ** 19 + k for k in range(8)]
        with at_once(5):
            self.assertFalse(alike(web, marks, web, marks))
            self.assertEqual(widest_difference(web, marks, web, [0] * 8)[0], marks[4])
            self.assertTrue(matters(web, marks, 0))
            self.assertEqual(without(web, 0).start, 4)

    def test_some_thousand_states(self):
        first, second = shuffled_layers(12, 3, 4, 1), shuffled_layers(12, 3, 4, 12)
        with at_once(5):
            answer = alike(first, [1] * 4, second, [1] * 4)
            self.assertFalse(answer)
            self.assertGreater(len(answer.paper), 3000)
            self.assertTrue(alike(first, [0, 1, 2, 3], second, [0, 1, 2, 3]))
            number, pupil = widest_difference(first, [0, 1, 2, 3], second, [0, 1, 2, 3])
            ends = end_of(first, pupil), end_of(second, pupil)
            self.assertEqual(number, abs(ends[0] - ends[1]))


if __name__ == "__main__":
    unittest.main()
