import random
import unittest

from helpers import (all_questions, at_once, end_by_words, end_pairs, ends_of_all, layered, led_to, pairs_by_words,
                     random_marks, shuffled_layers, small_grids, small_webs, steps_of)
from steppedtests.errors import BadMarks
from steppedtests.harms import (Answer, greatest_fall, greatest_rise, harm, harmless, splits, widest_fall)
from steppedtests.joint import Joint
from steppedtests.ladders import Ladder, build
from steppedtests.papers import accepts
from steppedtests.pupils import Pupil
from steppedtests.walks import mark_of
from steppedtests.webs import Web

WEB = Web([(1, 1, 2), (2, -1, -2), (3, -3, -4)], 4)
FUNCTIONS = (harm, greatest_fall, greatest_rise, widest_fall)


def cases(seed, number):
    """Pairs of a small web and marks."""
    chance = random.Random(seed)
    for web in (*small_webs(seed, number // 2), *small_grids(seed, number // 2)):
        yield web, random_marks(chance, web.ends)


def differences(web, marks):
    """Mark of A minus mark of A with q, for all A and q not in A that is asked of A."""
    for rights, question in pairs_by_words(web):
        if question in [step[1] for step in steps_of(web.nodes, rights, web.start)[0]]:
            yield marks[end_by_words(web, rights)] - marks[end_by_words(web, (*rights, question))]


def falls(web, marks):
    """Mark of A minus mark of B for all A <= B."""
    ends = ends_of_all(web)
    for lesser in ends:
        for better in ends:
            if set(lesser) <= set(better):
                yield marks[ends[lesser]] - marks[ends[better]]


class Answers(unittest.TestCase):
    def test_it_holds_the_very_objects(self):
        for found in (True, False):
            for witness, paper in (([1], None), (None, [((0,), ())]), ({}, ())):
                answer = Answer(found, witness, paper)
                self.assertIs(answer.found, found)
                self.assertIs(answer.witness, witness)
                self.assertIs(answer.paper, paper)
                self.assertIs(bool(answer), found)


class Splits(unittest.TestCase):
    def test_by_ascending_node(self):
        self.assertEqual(splits(WEB), ((2, 1), (-2, -1), (-4, -3)))
        self.assertEqual(splits(Web([(1, -1, -2)], 2)), ((-2, -1),))
        self.assertEqual(splits(Web([(4, 3, 1), (5, 2, -1), (6, 3, 3), (7, -1, -2)], 2)),
                         ((1, 3), (-1, 2), (3, 3), (-2, -1)))

    def test_reached_nodes_only(self):
        nodes = [(1, 1, -1, 2), (2, -1, -2, 3), (3, 3, -3), (4, -1, -1), (5, -2, -3)]
        for start, wanted in ((0, ((-1, 1), (-2, -1))), (1, ((-2, -1),)), (2, ((-3, 3), (-1, -1))),
                              (4, ((-3, -2),)), (-2, ())):
            self.assertEqual(splits(Web(nodes, 3, start=start)), wanted)
        self.assertEqual(splits(Web([], 3)), ())

    def test_against_the_words_of_the_document(self):
        for web in small_webs(1, 100):
            reached = sorted(place for place in led_to(web.nodes, web.start) if place >= 0)
            self.assertEqual(splits(web), tuple((web[k][2], web[k][1]) for k in reached))

    def test_finals_are_the_ends_of_pairs(self):
        for web in small_webs(2, 150):
            self.assertEqual(Joint((web, web), splits(web)).finals(), tuple(sorted(end_pairs(web))))


class Harmless(unittest.TestCase):
    def test_pairs(self):
        self.assertEqual(harmless([]), ())
        self.assertEqual(harmless((5,)), ((0, 0),))
        self.assertEqual(harmless([2, 1]), ((0, 0), (1, 0), (1, 1)))
        self.assertEqual(harmless([1, 1]), ((0, 0), (0, 1), (1, 0), (1, 1)))
        self.assertEqual(harmless([-10 ** 20, 3, 10 ** 20 + 1, 10 ** 20]), (
            (0, 0), (0, 1), (0, 2), (0, 3), (1, 1), (1, 2), (1, 3), (2, 2), (3, 2), (3, 3)))

    def test_many(self):
        chance = random.Random(2)
        for count in (3, 7, 60):
            marks = [chance.randrange(-5, 6) for _ in range(count)]
            wanted = [(e, f) for e in range(count) for f in range(count) if not marks[e] > marks[f]]
            self.assertEqual(harmless(marks), tuple(wanted))


class Marks(unittest.TestCase):
    def test_wrong_numbers_of_marks(self):
        for function in FUNCTIONS:
            for web in (WEB, Web([], 4), Web([(1, -1, -2)], 4, start=-3)):
                for count in (0, 1, 3, 5, 60):
                    with self.subTest((function, count)), self.assertRaises(BadMarks) as caught:
                        function(web, [0] * count)
                    self.assertEqual(caught.exception.count, count)

    def test_lists_stay(self):
        for function in FUNCTIONS:
            marks = [3, -1, 2, 0]
            function(WEB, marks)
            self.assertEqual(marks, [3, -1, 2, 0])


class Harms(unittest.TestCase):
    def check(self, web, marks):
        """The answer is the right one, and its witness or paper shows it."""
        answer = harm(web, marks)
        self.assertIsInstance(answer, Answer)
        self.assertIs(answer.found, max(differences(web, marks), default=0) > 0)
        self.assertIs(bool(answer), answer.found)
        if answer.found:
            self.assertIsNone(answer.paper)
            pupil, question = answer.witness
            self.assertIsInstance(answer.witness, tuple)
            self.assertNotIn(question, pupil.rights)
            self.assertLess(mark_of(web, marks, pupil.added(question)), mark_of(web, marks, pupil))
        else:
            self.assertIsNone(answer.witness)
            joint = Joint((web, web), splits(web))
            self.assertIs(accepts(joint, answer.paper, harmless(marks)), True)
        return answer.found

    def test_by_hand(self):
        for marks, harms in (([3, 2, 1, 0], False), ([3, 1, 2, 0], True), ([0, 1, 0, 1], True), ([2, 2, 2, 2], False),
                             ([3, 2, 1, 2], True), ([1, 2, 2, 1], True), ([2, 2, 1, 1], False), ([0, 0, 1, 1], True),
                             ([-1, -1, -1, -2], False), ([10 ** 20, 10 ** 20 - 1, 0, -1], False)):
            self.assertIs(self.check(WEB, marks), harms)

    def test_small_webs(self):
        found = [self.check(web, marks) for web, marks in cases(3, 400)]
        self.assertGreater(found.count(True), 50)
        self.assertGreater(found.count(False), 50)

    def test_no_reached_node(self):
        for web in (Web([], 2), Web([(1, -1, -2)], 2, start=-2)):
            answer = harm(web, [1, 0])
            self.assertEqual((answer.found, answer.witness, answer.paper), (False, None, ()))

    def test_nodes_that_nothing_leads_to(self):
        """What skips lead to does no harm, and neither do nodes ahead of the start."""
        nodes = [(1, -1, -2), (2, 3, -2, 2), (3, -2, -1), (4, -1, -1, -2)]
        self.assertFalse(harm(Web(nodes, 2, start=1), [1, 0]))
        self.assertFalse(harm(Web(nodes, 2), [1, 0]))
        self.assertTrue(harm(Web(nodes, 2), [0, 1]))
        self.assertTrue(harm(Web(nodes, 2, start=2), [1, 0]))

    def test_it_harms_exactly_if_the_widest_fall_is_above_0(self):
        for web, marks in cases(4, 200):
            self.assertIs(harm(web, marks).found, widest_fall(web, marks)[0] > 0)


class Greatest(unittest.TestCase):
    def check(self, web, marks, told, wanted, sign):
        if wanted is None:
            self.assertIsNone(told)
            return
        self.assertIsInstance(told, tuple)
        number, (pupil, question) = told
        self.assertEqual(number, wanted)
        self.assertNotIn(question, pupil.rights)
        asked = [step[1] for step in steps_of(web.nodes, pupil.rights, web.start)[0]]
        self.assertIn(question, asked)
        self.assertEqual(sign * (mark_of(web, marks, pupil) - mark_of(web, marks, pupil.added(question))), number)

    def test_by_hand(self):
        for marks, fall, rise in (([3, 2, 1, 0], -1, 3), ([3, 1, 2, 0], 1, 3), ([0, 1, 0, 1], 1, 1),
                                  ([5, 5, 5, 5], 0, 0), ([0, 10 ** 20, -10 ** 20, 0], 10 ** 20, 2 * 10 ** 20),
                                  ([-9, -5, -5, -9], 4, 4)):
            self.check(WEB, marks, greatest_fall(WEB, marks), fall, 1)
            self.check(WEB, marks, greatest_rise(WEB, marks), rise, -1)

    def test_both_below_0(self):
        web = Web([(7, -1, -2)], 2)
        self.check(web, [5, 2], greatest_fall(web, [5, 2]), -3, 1)
        self.check(web, [2, 5], greatest_rise(web, [2, 5]), -3, -1)

    def test_small_webs(self):
        nothing = 0
        for web, marks in cases(5, 400):
            found = list(differences(web, marks))
            nothing += not found
            fall, rise = (max(found), -min(found)) if found else (None, None)
            self.check(web, marks, greatest_fall(web, marks), fall, 1)
            self.check(web, marks, greatest_rise(web, marks), rise, -1)
        self.assertGreater(nothing, 20)

    def test_no_reached_node(self):
        for web in (Web([], 2), Web([(1, -1, -2)], 2, start=-2)):
            self.assertIsNone(greatest_fall(web, [1, 0]))
            self.assertIsNone(greatest_rise(web, [1, 0]))

    def test_questions_on_the_way_to_the_node(self):
        """The pupil of a node far behind comes to it by right and wrong answers."""
        nodes = [(10, 1, -1), (11, -1, 2), (12, 3, -1), (13, -2, -3)]
        web = Web(nodes, 3)
        number, (pupil, question) = greatest_fall(web, [5, 0, 9])
        self.assertEqual((number, pupil, question), (9, Pupil([10, 12]), 13))


class Widest(unittest.TestCase):
    def check(self, web, marks):
        number, (lesser, better) = widest_fall(web, marks)
        self.assertEqual(number, max(falls(web, marks)))
        self.assertTrue(lesser <= better)
        self.assertEqual(mark_of(web, marks, lesser) - mark_of(web, marks, better), number)
        return number

    def test_by_hand(self):
        for marks, wanted in (([3, 2, 1, 0], 0), ([3, 1, 2, 0], 1), ([0, 1, 2, 3], 3), ([0, 5, 0, 3], 5),
                              ([-10 ** 20, 0, 0, 10 ** 20], 2 * 10 ** 20), ([4, 4, 4, 4], 0)):
            self.assertEqual(self.check(WEB, marks), wanted)

    def test_more_than_the_greatest_fall(self):
        web = Web([(1, 1, 2), (2, -1, -2), (2, -2, -3)], 3)
        self.assertEqual((self.check(web, [0, 2, 4]), greatest_fall(web, [0, 2, 4])[0]), (4, 2))

    def test_small_webs(self):
        for web, marks in cases(6, 400):
            number = self.check(web, marks)
            self.assertGreaterEqual(number, 0)
            fall = greatest_fall(web, marks)
            if fall is not None:
                self.assertGreaterEqual(number, fall[0])

    def test_ladders_with_lesser_marks_for_more_rights(self):
        for count in (1, 2, 3):
            for most_wrongs in (0, count):
                web = build(Ladder(levels=2, begin=1, count=count, most_wrongs=most_wrongs))
                self.assertEqual(self.check(web, list(range(count, -1, -1))), count)
        self.assertEqual(greatest_fall(build(Ladder(levels=1, begin=1, count=3)), [3, 2, 1, 0])[0], 1)

    def test_no_reached_node(self):
        self.assertEqual(self.check(Web([], 2), [1, 0]), 0)
        self.assertEqual(self.check(Web([(1, -1, -2)], 2, start=-2), (1, 0)), 0)

    def test_the_better_pupil_has_what_the_lesser_one_alone_is_asked(self):
        web = Web([(1, 2, 1), (2, -1, -2), (3, -3, -3)], 3)
        number, (lesser, better) = widest_fall(web, [9, 0, 1])
        self.assertEqual((number, lesser.rights), (8, (2,)))
        self.assertEqual(better & Pupil([1, 2]), Pupil([1, 2]))
        self.check(web, [9, 0, 1])


class Large(unittest.TestCase):
    def test_many_nodes(self):
        web = Web(layered(48, 4, 8), 8)
        for marks in (list(range(8)), [10 ** 19 - k for k in range(8)], [1] * 8):
            with at_once(5):
                answer = harm(web, marks)
                fall, rise = greatest_fall(web, marks), greatest_rise(web, marks)
                number, (lesser, better) = widest_fall(web, marks)
            if answer:
                pupil, question = answer.witness
                self.assertLess(mark_of(web, marks, pupil.added(question)), mark_of(web, marks, pupil))
            else:
                self.assertTrue(accepts(Joint((web, web), splits(web)), answer.paper, harmless(marks)))
            for sign, (most, (pupil, question)) in ((1, fall), (-1, rise)):
                low, high = mark_of(web, marks, pupil), mark_of(web, marks, pupil.added(question))
                self.assertEqual(sign * (low - high), most)
            self.assertTrue(lesser <= better)
            self.assertEqual(mark_of(web, marks, lesser) - mark_of(web, marks, better), number)

    def test_splits_of_many_nodes(self):
        web = Web([(k % 2, -1 - k % 60, -60) if k >= 100 else (2 + k % 46, 100 + k, -2) for k in range(200)], 60)
        with at_once(2):
            self.assertEqual(splits(web), ((-2, 100), (-60, -41)))

    def test_some_thousand_states(self):
        """Two webs of other orders behind one first question."""
        first, second = shuffled_layers(11, 3, 4, 1).nodes, shuffled_layers(11, 3, 4, 12).nodes
        nodes = [(47, 1, 1 + len(first))]
        for nodes_behind, base in ((first, 1), (second, 1 + len(first))):
            nodes += [(node[0], *[place + base if place >= 0 else place for place in node[1:]])
                      for node in nodes_behind]
        web = Web(nodes, 4)
        joint = Joint((web, web), splits(web))
        self.assertGreater(len(joint.states()), 1000)
        for marks in ([0, 0, 0, 0], [0, 1, 2, 3]):
            with at_once(10):
                answer = harm(web, marks)
                widest_fall(web, marks), greatest_rise(web, marks)
                if not answer:
                    self.assertTrue(accepts(joint, answer.paper, harmless(marks)))
        self.assertEqual(len(all_questions(web)), 12)


if __name__ == "__main__":
    unittest.main()
