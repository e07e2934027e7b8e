import itertools
import unittest

from steppedtests.errors import BadQuestion
from steppedtests.pupils import Pupil

EVERY = tuple(range(48))
SMALL = [rights for size in range(4) for rights in itertools.combinations((0, 5, 47), size)]
PAIRS = list(itertools.product(SMALL, SMALL))


class Constructor(unittest.TestCase):
    def test_rights_are_ascending_without_duplicates(self):
        for questions in ([5, 3, 9], (9, 5, 3), [9, 3, 5, 3, 9, 9]):
            with self.subTest(questions):
                self.assertEqual(Pupil(questions).rights, (3, 5, 9))
                self.assertIsInstance(Pupil(questions).rights, tuple)

    def test_none_and_all(self):
        self.assertEqual(Pupil([]).rights, ())
        self.assertEqual(Pupil(()).rights, ())
        self.assertEqual(Pupil(reversed(EVERY)).rights, EVERY)

    def test_borders_of_questions(self):
        self.assertEqual(Pupil([47, 0]).rights, (0, 47))
        for wrong in (-1, 48, -48, 10 ** 6):
            with self.subTest(wrong), self.assertRaises(BadQuestion) as caught:
                Pupil([0, wrong, 47])
            self.assertEqual(caught.exception.number, wrong)

    def test_the_first_wrong_question_is_told(self):
        for questions, first in (([3, 50, -1], 50), ([-1, 50], -1), ((99, 48, 3), 99), ([-2, -1, -2], -2)):
            with self.subTest(questions), self.assertRaises(BadQuestion) as caught:
                Pupil(questions)
            self.assertEqual(caught.exception.number, first)

    def test_the_argument_is_copied_and_not_changed(self):
        questions = [7, 2, 7]
        pupil = Pupil(questions)
        self.assertEqual(questions, [7, 2, 7])
        questions.append(1)
        questions[0] = 40
        self.assertEqual(pupil.rights, (2, 7))

    def test_questions_is_no_attribute(self):
        self.assertFalse(hasattr(Pupil([1]), "questions"))


class Operators(unittest.TestCase):
    def test_at_least_as_good(self):
        for a, b in PAIRS:
            with self.subTest((a, b)):
                self.assertIs(Pupil(a) <= Pupil(b), set(a) <= set(b))

    def test_union_intersection_and_difference(self):
        for a, b in PAIRS:
            with self.subTest((a, b)):
                first, second = Pupil(a), Pupil(b)
                for made, wanted in ((first | second, set(a) | set(b)), (first & second, set(a) & set(b)),
                                     (first - second, set(a) - set(b))):
                    self.assertIsInstance(made, Pupil)
                    self.assertEqual(made.rights, tuple(sorted(wanted)))
                self.assertEqual((first.rights, second.rights), (a, b))

    def test_all_questions(self):
        every, none = Pupil(EVERY), Pupil([])
        self.assertEqual((every - none, every & none, none | every), (every, none, every))
        self.assertTrue(none <= every)
        self.assertFalse(every <= none)
        self.assertEqual((every - Pupil([47])).rights, EVERY[:-1])

    def test_has_a_question(self):
        pupil = Pupil([0, 8, 47])
        for question in range(-60, 120):
            self.assertIs(question in pupil, question in (0, 8, 47))
        for question in (10 ** 20, -10 ** 20):
            self.assertIs(question in pupil, False)
        self.assertIs(0 in Pupil([]), False)

    def test_length(self):
        self.assertEqual([len(Pupil(rights)) for rights in ([], [4], [4, 4, 2], EVERY)], [0, 1, 2, 48])

    def test_equal(self):
        for a, b in PAIRS:
            with self.subTest((a, b)):
                self.assertIs(Pupil(a) == Pupil(b), a == b)
                self.assertIs(Pupil(a) != Pupil(b), a != b)
        self.assertEqual(Pupil([3, 1, 3]), Pupil((1, 3)))
        self.assertFalse(Pupil([3]) == (3,))
        self.assertFalse(Pupil([]) == ())


class Added(unittest.TestCase):
    def test_a_new_question(self):
        pupil = Pupil([4, 9])
        for question, rights in ((0, (0, 4, 9)), (5, (4, 5, 9)), (47, (4, 9, 47))):
            self.assertEqual(pupil.added(question), Pupil(rights))
            self.assertEqual(pupil.added(question).rights, rights)
        self.assertEqual(pupil.rights, (4, 9))

    def test_a_question_that_is_there_already(self):
        pupil = Pupil([4, 9])
        self.assertEqual(pupil.added(9).rights, (4, 9))
        self.assertEqual(Pupil(EVERY).added(47).rights, EVERY)

    def test_a_wrong_question(self):
        pupil = Pupil([4, 9])
        for wrong in (-1, 48, 10 ** 9):
            with self.subTest(wrong), self.assertRaises(BadQuestion) as caught:
                pupil.added(wrong)
            self.assertEqual(caught.exception.number, wrong)
        self.assertEqual(pupil.rights, (4, 9))


if __name__ == "__main__":
    unittest.main()
