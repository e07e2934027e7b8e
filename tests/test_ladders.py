import itertools
import unittest

from steppedtests.errors import BadLadder
from steppedtests.ladders import Ladder, build, ladder_run
from steppedtests.pupils import Pupil
from steppedtests.walks import end_of, run_of

WORDS = ("levels", "begin", "up", "down", "count", "most_wrongs")
DEFAULTS = (3, 2, 1, 1, 4, 0)


def numbers_of(ladder):
    return tuple(getattr(ladder, word) for word in WORDS)


def ladder_of(*numbers):
    return Ladder(**dict(zip(WORDS, numbers)))


def all_ladders(levels, counts):
    """All ladders with these levels and counts."""
    for level, up, down, count in itertools.product(levels, (1, 2, 3), (1, 2, 3), counts):
        for begin in range(1, level + 1):
            for most_wrongs in range(count + 1):
                yield ladder_of(level, begin, up, down, count, most_wrongs)


def run_by_words(ladder, answers):
    """The run in which the answers come in this order, by the words of point 10."""
    level, ups, downs, run = ladder.begin, 0, 0, []
    asked = {level: 0 for level in range(1, ladder.levels + 1)}
    for answer in answers:
        run.append(((level - 1) * 8 + asked[level], answer))
        asked[level] += 1
        if answer:
            ups, downs = ups + 1, 0
            if ups == ladder.up:
                level, ups = min(ladder.levels, level + 1), 0
        else:
            ups, downs = 0, downs + 1
            if downs == ladder.down:
                level, downs = max(1, level - 1), 0
        wrongs = [told for _, told in run].count(0)
        if len(run) == ladder.count or ladder.most_wrongs and wrongs == ladder.most_wrongs:
            break
    return tuple(run)


class Raising(unittest.TestCase):
    def assert_bad(self, word, **numbers):
        with self.subTest(numbers), self.assertRaises(BadLadder) as caught:
            Ladder(**numbers)
        self.assertEqual(caught.exception.word, word)


class Constructor(Raising):
    def test_defaults(self):
        self.assertEqual(numbers_of(Ladder()), DEFAULTS)
        self.assertEqual(numbers_of(Ladder(up=3)), (3, 2, 3, 1, 4, 0))

    def test_attributes(self):
        for numbers in ((1, 1, 2, 3, 5, 4), (6, 6, 3, 3, 6, 6), (5, 4, 1, 2, 3, 0)):
            self.assertEqual(numbers_of(ladder_of(*numbers)), numbers)

    def test_borders(self):
        """Each number at both borders of its range, and one beyond."""
        borders = {"levels": (1, 6), "begin": (1, 4), "up": (1, 3), "down": (1, 3), "count": (1, 6),
                   "most_wrongs": (0, 5)}
        for word, (low, high) in borders.items():
            numbers = {"levels": 4, "begin": 1, "up": 2, "down": 2, "count": 5, "most_wrongs": 1}
            for number in (low, high):
                self.assertEqual(getattr(Ladder(**{**numbers, word: number}), word), number)
            for number in (low - 1, high + 1, -10 ** 9, 10 ** 9):
                self.assert_bad(word, **{**numbers, word: number})

    def test_begin_goes_with_levels(self):
        for levels in range(1, 7):
            self.assertEqual(Ladder(levels=levels, begin=levels).begin, levels)
            self.assert_bad("begin", levels=levels, begin=levels + 1)
        self.assert_bad("begin", levels=1)

    def test_most_wrongs_go_with_count(self):
        for count in range(1, 7):
            self.assertEqual(Ladder(count=count, most_wrongs=count).most_wrongs, count)
            self.assert_bad("most_wrongs", count=count, most_wrongs=count + 1)

    def test_the_first_wrong_one_is_told(self):
        wrong = (7, 0, 4, 0, 7, -1)
        for first in range(6):
            for good in itertools.product((True, False), repeat=5 - first):
                numbers = list(DEFAULTS[:first]) + [wrong[first]]
                numbers += [DEFAULTS[k] if kept else wrong[k] for k, kept in enumerate(good, first + 1)]
                self.assert_bad(WORDS[first], **dict(zip(WORDS, numbers)))

    def test_keywords_only(self):
        with self.assertRaises(TypeError):
            Ladder(3)


class Equal(unittest.TestCase):
    def test_all_six_numbers_count(self):
        numbers = (4, 2, 2, 2, 5, 1)
        self.assertTrue(ladder_of(*numbers) == ladder_of(*numbers))
        self.assertFalse(ladder_of(*numbers) != ladder_of(*numbers))
        for k, word in enumerate(WORDS):
            other = ladder_of(*numbers[:k], numbers[k] + 1, *numbers[k + 1:])
            with self.subTest(word):
                self.assertFalse(ladder_of(*numbers) == other)
                self.assertTrue(ladder_of(*numbers) != other)
        self.assertFalse(ladder_of(*numbers) == numbers)


class Changed(unittest.TestCase):
    def assert_bad(self, word, ladder, **numbers):
        before = numbers_of(ladder)
        with self.subTest(numbers), self.assertRaises(BadLadder) as caught:
            ladder.changed(**numbers)
        self.assertEqual(caught.exception.word, word)
        self.assertEqual(numbers_of(ladder), before)

    def test_each_number(self):
        numbers = (4, 2, 2, 2, 5, 1)
        for k, word in enumerate(WORDS):
            ladder = ladder_of(*numbers)
            made = ladder.changed(**{word: numbers[k] + 1})
            self.assertEqual(numbers_of(made), (*numbers[:k], numbers[k] + 1, *numbers[k + 1:]))
            self.assertEqual(numbers_of(ladder), numbers)

    def test_none_and_several(self):
        ladder = ladder_of(4, 2, 2, 2, 5, 1)
        self.assertEqual(ladder.changed(), ladder)
        self.assertEqual(numbers_of(ladder.changed(begin=1, levels=1, count=1)), (1, 1, 2, 2, 1, 1))
        self.assertEqual(numbers_of(ladder.changed(most_wrongs=0, down=1)), (4, 2, 2, 1, 5, 0))

    def test_strange_words(self):
        ladder = Ladder()
        for word in ("level", "wrongs", "starts", "Levels", "index"):
            self.assert_bad(word, ladder, **{word: 1})
        self.assert_bad("first", ladder, second=1, first=1, third=1)
        self.assert_bad("Zeta", ladder, alpha=1, Zeta=2)
        self.assert_bad("", ladder, **{"b": 1, "": 1, "a": 1})

    def test_strange_words_come_ahead_of_wrong_numbers(self):
        self.assert_bad("zeta", Ladder(), levels=9, zeta=1)
        self.assert_bad("beta", Ladder(), levels=9, zeta=1, begin=0, beta=5)

    def test_wrong_numbers(self):
        ladder = Ladder(count=6, most_wrongs=6)
        self.assert_bad("begin", ladder, levels=1)
        self.assert_bad("most_wrongs", ladder, count=5)
        self.assert_bad("up", ladder, count=7, up=0)
        self.assert_bad("levels", ladder, most_wrongs=9, levels=0, begin=1)


class Runs(unittest.TestCase):
    def test_a_run_by_hand(self):
        ladder = Ladder(levels=2, begin=1, up=2, down=1, count=6)
        self.assertEqual(ladder_run(ladder, Pupil([])), tuple((k, 0) for k in range(6)))
        every = Pupil(range(48))
        self.assertEqual(ladder_run(ladder, every), ((0, 1), (1, 1), (8, 1), (9, 1), (10, 1), (11, 1)))
        self.assertEqual(ladder_run(ladder, Pupil([0, 1, 9])), ((0, 1), (1, 1), (8, 0), (2, 0), (3, 0), (4, 0)))

    def test_a_right_answer_ends_the_wrongs_in_a_row(self):
        ladder = Ladder(levels=2, begin=2, up=2, down=3, count=6)
        self.assertEqual(ladder_run(ladder, Pupil([8, 9, 10])),
                         ((8, 1), (9, 1), (10, 1), (11, 0), (12, 0), (13, 0)))
        self.assertEqual(ladder_run(Ladder(levels=2, begin=2, down=2, count=5), Pupil([8, 10])),
                         ((8, 1), (9, 0), (10, 1), (11, 0), (12, 0)))

    def test_it_ends_behind_the_last_wrong_answer(self):
        for most_wrongs in (1, 2, 3, 4):
            run = ladder_run(Ladder(begin=1, count=4, most_wrongs=most_wrongs), Pupil([]))
            self.assertEqual(run, tuple((k, 0) for k in range(most_wrongs)))
        self.assertEqual(len(ladder_run(Ladder(begin=1, count=4, most_wrongs=0), Pupil([]))), 4)

    def test_one_question(self):
        for most_wrongs in (0, 1):
            ladder = Ladder(levels=6, begin=6, count=1, most_wrongs=most_wrongs)
            self.assertEqual(ladder_run(ladder, Pupil([40])), ((40, 1),))
            self.assertEqual(ladder_run(ladder, Pupil([])), ((40, 0),))


class Rows(unittest.TestCase):
    """Each row of answers, led through the ladder and through build's web."""

    def compare(self, ladder):
        web = build(ladder)
        self.assertEqual(web.ends, ladder.count + 1)
        self.assertEqual(web.reached(), tuple(range(len(web))))
        for answers in itertools.product((0, 1), repeat=ladder.count):
            run = run_by_words(ladder, answers)
            pupil = Pupil([question for question, answer in run if answer])
            self.assertEqual(ladder_run(ladder, pupil), run)
            self.assertEqual(run_of(web, pupil), run)
            self.assertEqual(end_of(web, pupil), len(pupil))

    def test_all_ladders_of_up_to_four_questions(self):
        for ladder in all_ladders((1, 2, 3), (1, 2, 3, 4)):
            self.compare(ladder)

    def test_ladders_of_six_questions(self):
        for up, down, (levels, begin) in itertools.product((1, 2, 3), (1, 2, 3), ((1, 1), (2, 1), (6, 3), (6, 6))):
            for most_wrongs in (0, 1, 4, 6):
                self.compare(ladder_of(levels, begin, up, down, 6, most_wrongs))

    def test_other_questions_do_not_count(self):
        ladder = Ladder(levels=1, begin=1, count=2)
        self.assertEqual(ladder_run(ladder, Pupil([1, 2, 9, 47])), ((0, 0), (1, 1)))
        self.assertEqual(end_of(build(ladder), Pupil([1, 2, 9, 47])), 1)

    def test_no_skips(self):
        self.assertEqual({len(node) for node in build(Ladder(count=6)).nodes}, {3})


if __name__ == "__main__":
    unittest.main()
