import inspect
import itertools
import random
import unittest

from helpers import at_once
from steppedtests.errors import BadLadder
from steppedtests.ladders import Ladder, ladder_run
from steppedtests.pupils import Pupil
from steppedtests.toldback import fitting

WORDS = ("levels", "begin", "up", "down", "count", "most_wrongs")


def numbers_of(ladder):
    return tuple(getattr(ladder, word) for word in WORDS)


def all_numbers(levels, count):
    """The six numbers of all ladders with these levels and count, ascending by the other four."""
    for begin in range(1, levels + 1):
        for up, down, most_wrongs in itertools.product((1, 2, 3), (1, 2, 3), range(count + 1)):
            yield (levels, begin, up, down, count, most_wrongs)


def ladder_of(numbers):
    return Ladder(**dict(zip(WORDS, numbers)))


def fitting_by_words(runs, levels, count):
    found = []
    for numbers in all_numbers(levels, count):
        if all(ladder_run(ladder_of(numbers), pupil) == tuple(tuple(step) for step in run) for pupil, run in runs):
            found.append(numbers)
    return found


def random_runs(chance, ladder, number):
    pupils = [Pupil(chance.sample(range(48), chance.randrange(49))) for _ in range(number)]
    return [(pupil, ladder_run(ladder, pupil)) for pupil in pupils]


class Errors(unittest.TestCase):
    def assert_raises(self, word, runs, levels, count):
        with self.subTest((levels, count)):
            ladders = fitting(runs, levels=levels, count=count)
            with self.assertRaises(BadLadder) as caught:
                next(ladders)
            self.assertEqual(caught.exception.word, word)

    def test_levels_come_first(self):
        for runs in ((), [(Pupil([]), ())]):
            for levels in (-1, 0, 7, 8, 100):
                for count in (-1, 0, 1, 4, 6, 7):
                    self.assert_raises("levels", runs, levels, count)

    def test_count(self):
        for runs in ((), [(Pupil([]), ())]):
            for levels in range(1, 7):
                for count in (-1, 0, 7, 8, 100):
                    self.assert_raises("count", runs, levels, count)

    def test_nothing_is_raised_before_it_is_iterated(self):
        self.assertTrue(inspect.isgenerator(fitting([], levels=0, count=0)))
        self.assertRaises(BadLadder, list, fitting([], levels=0, count=0))


class Fitting(unittest.TestCase):
    def check(self, runs, levels, count):
        ladders = list(fitting(runs, levels=levels, count=count))
        self.assertTrue(all(isinstance(ladder, Ladder) for ladder in ladders))
        found = [numbers_of(ladder) for ladder in ladders]
        self.assertEqual(found, fitting_by_words(runs, levels, count))
        return found

    def test_without_runs(self):
        for levels, count in itertools.product(range(1, 7), range(1, 7)):
            for runs in ((), []):
                found = self.check(runs, levels, count)
                self.assertEqual(found, list(all_numbers(levels, count)))
                self.assertEqual(found, sorted(set(found)))
                self.assertEqual(len(found), levels * 9 * (count + 1))

    def test_by_hand(self):
        # Question 8 is the first one of level 2; one right answer leads to level 3.
        found = self.check([(Pupil([8]), ((8, 1), (16, 0)))], 3, 2)
        self.assertEqual(found, [(3, 2, 1, down, 2, wrongs) for down in (1, 2, 3) for wrongs in (0, 1, 2)])
        found = self.check([(Pupil([]), ((8, 0),))], 3, 2)
        self.assertEqual(found, [(3, 2, up, down, 2, 1) for up in (1, 2, 3) for down in (1, 2, 3)])
        found = self.check([(Pupil([8]), ((8, 1), (16, 0))), (Pupil([]), ((8, 0),))], 3, 2)
        self.assertEqual(found, [(3, 2, 1, down, 2, 1) for down in (1, 2, 3)])

    def test_runs_that_no_ladder_has(self):
        for pupil, run in ((Pupil([]), ()), (Pupil([0]), ((0, 0),)), (Pupil([]), ((1, 0),)),
                           (Pupil([]), ((0, 0), (0, 0))), (Pupil([]), ((0, 0), (1, 0), (2, 0))),
                           (Pupil([0]), ((0, 1),)), (Pupil([]), ((40, 0), (41, 0)))):
            self.assertEqual(self.check([(pupil, run)], 2, 2), [])
        same, other = (Pupil([]), ((0, 0), (1, 0))), (Pupil([]), ((8, 0), (0, 0)))
        self.assertNotEqual(self.check([same], 2, 2), [])
        self.assertNotEqual(self.check([other], 2, 2), [])
        self.assertEqual(self.check([same, other], 2, 2), [])

    def test_runs_of_one_ladder(self):
        chance = random.Random(1)
        for _ in range(60):
            numbers = chance.choice(list(all_numbers(chance.randrange(1, 7), chance.randrange(1, 7))))
            runs = random_runs(chance, ladder_of(numbers), chance.randrange(1, 5))
            found = self.check(tuple(runs), numbers[0], numbers[4])
            self.assertIn(numbers, found)
            levels, count = chance.randrange(1, 7), chance.randrange(1, 7)
            self.check(runs, levels, count)

    def test_all_pupils_of_one_ladder(self):
        """The runs of all pupils fit no ladder that asks another one otherwise."""
        ladder = Ladder(levels=2, begin=1, up=2, down=1, count=3, most_wrongs=2)
        pupils = [Pupil(rights) for size in range(7) for rights in itertools.combinations((0, 1, 2, 8, 9, 10), size)]
        found = self.check([(pupil, ladder_run(ladder, pupil)) for pupil in pupils], 2, 3)
        self.assertIn(numbers_of(ladder), found)
        for numbers in found:
            self.assertEqual([ladder_run(ladder_of(numbers), pupil) for pupil in pupils],
                             [ladder_run(ladder, pupil) for pupil in pupils])

    def test_lists_for_tuples(self):
        ladder = Ladder(levels=3, begin=2, up=2, down=1, count=5, most_wrongs=3)
        runs = random_runs(random.Random(2), ladder, 3)
        wanted = self.check(runs, 3, 5)
        lists = [[pupil, [list(step) for step in run]] for pupil, run in runs]
        kept = [[pupil, [list(step) for step in run]] for pupil, run in runs]
        self.assertEqual(self.check(lists, 3, 5), wanted)
        self.assertEqual(lists, kept)
        self.assertEqual(self.check([(pupil, list(run)) for pupil, run in runs], 3, 5), wanted)

    def test_many_runs(self):
        ladder = Ladder(levels=6, begin=3, up=1, down=2, count=6)
        runs = random_runs(random.Random(3), ladder, 300)
        with at_once(10):
            self.assertIn(ladder, list(fitting(runs, levels=6, count=6)))


if __name__ == "__main__":
    unittest.main()
