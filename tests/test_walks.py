import copy
import itertools
import random
import unittest

from helpers import at_once, layered, least_twice, random_cases, steps_of, with_skips
from steppedtests.errors import BadMarks, NoPosition
from steppedtests.pupils import Pupil
from steppedtests.walks import end_of, mark_of, run_of, walk
from steppedtests.webs import Web

# Node 4 is behind a skip only, and node 3 is led to from nodes 1 and 2.
NODES = [(10, 1, 2, 4), (20, -1, 3), (20, 3, -2), (5, -3, -4, -5), (7, -5, -6)]
ENDS = 6
WEB = Web(NODES, ENDS)


class Walks(unittest.TestCase):
    def test_from_the_start(self):
        wanted = {
            (): [(0, 10, 0), (2, 20, 0)],
            (10,): [(0, 10, 1), (1, 20, 0), (3, 5, 0)],
            (20,): [(0, 10, 0), (2, 20, 1), (3, 5, 0)],
            (5, 20): [(0, 10, 0), (2, 20, 1), (3, 5, 1)],
            (10, 20): [(0, 10, 1), (1, 20, 1)],
        }
        for rights, steps in wanted.items():
            self.assertEqual(list(walk(WEB, Pupil(rights))), steps)
            self.assertEqual(list(walk(WEB, Pupil(rights), None)), steps)

    def test_it_yields_tuples_one_by_one(self):
        steps = walk(WEB, Pupil([10]))
        self.assertIs(iter(steps), steps)
        self.assertEqual(next(steps), (0, 10, 1))
        self.assertEqual(next(steps), (1, 20, 0))
        self.assertEqual([type(step) for step in walk(WEB, Pupil([]))], [tuple, tuple])
        self.assertEqual([type(step[2]) for step in walk(WEB, Pupil([10]))], [int, int, int])

    def test_from_each_other_node(self):
        self.assertEqual(list(walk(WEB, Pupil([5]), 0)), [(0, 10, 0), (2, 20, 0)])
        self.assertEqual(list(walk(WEB, Pupil([5]), 1)), [(1, 20, 0), (3, 5, 1)])
        self.assertEqual(list(walk(WEB, Pupil([5]), start=2)), [(2, 20, 0)])
        self.assertEqual(list(walk(WEB, Pupil([5]), 3)), [(3, 5, 1)])
        self.assertEqual(list(walk(WEB, Pupil([5]), 4)), [(4, 7, 0)])

    def test_from_an_end(self):
        for end in range(ENDS):
            self.assertEqual(list(walk(WEB, Pupil([10]), -1 - end)), [])

    def test_a_start_of_the_web_s_own(self):
        for start, steps in ((3, [(3, 5, 0)]), (-2, [])):
            web = Web(NODES, ENDS, start=start)
            self.assertEqual(list(walk(web, Pupil([]))), steps)
            self.assertEqual(list(walk(web, Pupil([]), 0)), [(0, 10, 0), (2, 20, 0)])
        self.assertEqual(list(walk(Web([], 1), Pupil([1]))), [])

    def test_no_position_is_raised_when_it_is_iterated(self):
        for start in (5, 6, -7, -8, 1000):
            steps = walk(WEB, Pupil([10]), start)
            with self.subTest(start), self.assertRaises(NoPosition) as caught:
                next(steps)
            self.assertEqual(caught.exception.place, start)

    def test_questions_that_are_not_asked(self):
        more = [0, 1, 6, 7, 11, 19, 21, 46, 47]
        for rights in ([], [10], [20, 5]):
            self.assertEqual(list(walk(WEB, Pupil(rights + more))), list(walk(WEB, Pupil(rights))))
            self.assertEqual(end_of(WEB, Pupil(rights + more)), end_of(WEB, Pupil(rights)))


class Runs(unittest.TestCase):
    def test_runs(self):
        self.assertEqual(run_of(WEB, Pupil([])), ((10, 0), (20, 0)))
        self.assertEqual(run_of(WEB, Pupil([10, 5])), ((10, 1), (20, 0), (5, 1)))
        self.assertEqual(run_of(Web(NODES, ENDS, start=3), Pupil([5])), ((5, 1),))

    def test_empty_runs(self):
        self.assertEqual(run_of(Web([], 3), Pupil([1])), ())
        self.assertEqual(run_of(Web(NODES, ENDS, start=-4), Pupil([10])), ())

    def test_they_are_tuples_of_tuples(self):
        run = run_of(WEB, Pupil([10]))
        self.assertEqual([type(run)] + [type(pair) for pair in run], [tuple] * 4)


class EndsOfWalks(unittest.TestCase):
    def test_from_the_start(self):
        wanted = {(): 1, (5,): 1, (10,): 3, (5, 10): 2, (20,): 3, (5, 20): 2, (10, 20): 0, (5, 10, 20): 0}
        for rights, end in wanted.items():
            self.assertEqual(end_of(WEB, Pupil(rights)), end)
            self.assertEqual(end_of(WEB, Pupil(rights), None), end)

    def test_from_other_positions(self):
        self.assertEqual([end_of(WEB, Pupil([]), start) for start in range(5)], [1, 3, 1, 3, 5])
        self.assertEqual([end_of(WEB, Pupil([20, 7, 5]), start=start) for start in range(5)], [2, 0, 2, 2, 4])
        self.assertEqual([end_of(WEB, Pupil([10]), -1 - end) for end in range(6)], list(range(6)))

    def test_a_start_of_the_web_s_own(self):
        self.assertEqual(end_of(Web(NODES, ENDS, start=-6), Pupil([10])), 5)
        self.assertEqual(end_of(Web(NODES, ENDS, start=4), Pupil([7])), 4)
        self.assertEqual(end_of(Web(NODES, ENDS, start=4), Pupil([7]), 0), 1)
        self.assertEqual(end_of(Web([], 2, start=-2), Pupil([])), 1)

    def test_no_position(self):
        for start in (5, -7, 99, -99):
            with self.subTest(start), self.assertRaises(NoPosition) as caught:
                end_of(WEB, Pupil([]), start)
            self.assertEqual(caught.exception.place, start)


class Marks(unittest.TestCase):
    def test_the_mark_of_the_end(self):
        marks = [40, -30, 20, 0, 7, 9]
        for rights in ((), (5,), (10,), (5, 10), (20,), (10, 20)):
            pupil = Pupil(rights)
            self.assertEqual(mark_of(WEB, marks, pupil), marks[end_of(WEB, pupil)])
            self.assertEqual(mark_of(WEB, tuple(marks), pupil), marks[end_of(WEB, pupil)])
        self.assertEqual(mark_of(WEB, marks, Pupil([])), -30)
        self.assertEqual(mark_of(Web(NODES, ENDS, start=-3), marks, Pupil([])), 20)

    def test_marks_of_twenty_digits(self):
        great = 10 ** 20 - 1
        marks = (great, -great, great - 1, 1 - great, 0, 0)
        self.assertEqual(mark_of(WEB, marks, Pupil([10, 20])), 99999999999999999999)
        self.assertEqual(mark_of(WEB, marks, Pupil([])), -99999999999999999999)
        self.assertEqual(mark_of(WEB, marks, Pupil([10])), -99999999999999999998)

    def test_too_few_and_too_many(self):
        for count in (0, 1, 5, 7, 60):
            with self.subTest(count), self.assertRaises(BadMarks) as caught:
                mark_of(WEB, [1] * count, Pupil([]))
            self.assertEqual(caught.exception.count, count)
        with self.assertRaises(BadMarks) as caught:
            mark_of(Web([], 1), (), Pupil([]))
        self.assertEqual(caught.exception.count, 0)


class Unchanged(unittest.TestCase):
    def test_arguments_stay_as_they_were(self):
        web, pupil, marks = Web(NODES, ENDS, start=2), Pupil([20, 5]), [3, 1, 2, 0, 5, 4]
        before = copy.deepcopy((web, pupil, marks))
        list(walk(web, pupil)), run_of(web, pupil), end_of(web, pupil, 0), mark_of(web, marks, pupil)
        self.assertEqual((web, pupil, marks), before)


class Compared(unittest.TestCase):
    """Small webs, compared with steps that follow the document's words."""

    def test_all_pupils(self):
        for nodes, ends, start in random_cases(3, 250):
            if least_twice(nodes) is not None:
                continue
            web, marks = Web(nodes, ends, start=start), [k * k - 3 for k in range(ends)]
            questions = web.asked(start)[:6]
            for size in range(len(questions) + 1):
                for rights in itertools.combinations(questions, size):
                    self.compare(web, marks, rights)

    def compare(self, web, marks, rights):
        pupil = Pupil(rights)
        for place in range(-web.ends, len(web)):
            steps, end = steps_of(web.nodes, rights, place)
            self.assertEqual(list(walk(web, pupil, place)), steps)
            self.assertEqual(end_of(web, pupil, place), -1 - end)
        steps, end = steps_of(web.nodes, rights, web.start)
        self.assertEqual(run_of(web, pupil), tuple(step[1:] for step in steps))
        self.assertEqual(mark_of(web, marks, pupil), marks[-1 - end])


class Large(unittest.TestCase):
    def test_many_ways(self):
        chance = random.Random(4)
        plain = layered(48, 4, 60)
        marks = [10 ** 19 + end for end in range(60)]
        for nodes in (plain, with_skips(plain)):
            web = Web(nodes, 60)
            for many in (0, 1, 24, 47, 48):
                rights = chance.sample(range(48), many)
                steps, end = steps_of(nodes, rights, 0)
                with self.subTest(many), at_once():
                    self.assertEqual(list(walk(web, Pupil(rights))), steps)
                    self.assertEqual(len(run_of(web, Pupil(rights))), 48)
                    self.assertEqual(mark_of(web, marks, Pupil(rights)), marks[-1 - end])


if __name__ == "__main__":
    unittest.main()
