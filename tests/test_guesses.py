import itertools
import random
import unittest

from helpers import (all_questions, at_once, end_by_words, layered, led_to, random_marks, small_nodes, small_webs,
                     steps_of, subsets)
from steppedtests.errors import BadMarks, NoNode, NoSkip, NotComing, NotReached
from steppedtests.guesses import guess, guesses
from steppedtests.pupils import Pupil
from steppedtests.ratios import Ratio
from steppedtests.walks import end_of
from steppedtests.webs import Web

# Node 0 leads to node 1 by right and to node 2 by wrong, and to node 3 by a skip only.
WEB = Web([(1, 1, 2, 3), (2, -1, -2), (3, -2, -3, -4), (4, -1, -4, -3)], 4)


def three_ends(right, wrong, skip):
    """A web with one node, and marks behind it."""
    return Web([(5, -1, -2, -3)], 3), [right, wrong, skip]


def answer_by_words(right, wrong, skip):
    if right > wrong:
        return ("above", Ratio(skip - wrong, right - wrong))
    if right < wrong:
        return ("below", Ratio(wrong - skip, wrong - right))
    return ("always",) if right > skip else ("never",)


def webs_with_skips(seed, number):
    chance = random.Random(seed)
    for web in small_webs(seed, number):
        nodes = small_nodes(chance, chance.randrange(1, 8), 4, 5, [2, 3, 3])
        yield Web(nodes, 4)
        yield web


def cases(seed, number):
    """Webs, marks and each reached node with a skip."""
    chance = random.Random(seed)
    for web in webs_with_skips(seed, number):
        marks = random_marks(chance, web.ends)
        for node in web.reached():
            if len(web[node]) == 4:
                yield web, marks, node


def comes(web, rights, node):
    return node in [step[0] for step in steps_of(web.nodes, rights, web.start)[0]]


class Errors(unittest.TestCase):
    def assert_raises(self, error, number, web, marks, node, pupil=Pupil([])):
        for call in (lambda: guess(web, marks, node, pupil), lambda: guesses(web, marks, node)):
            with self.subTest((error, marks, node)), self.assertRaises(error) as caught:
                call()
            self.assertEqual(list(vars(caught.exception).values()), [number])

    def test_marks_come_first(self):
        for marks in ((), [1], [1, 2, 3], (1, 2, 3, 4, 5)):
            for node in (-1, 0, 1, 3, 4, 99):
                self.assert_raises(BadMarks, len(marks), WEB, marks, node)

    def test_no_such_node(self):
        for node in (-1, -4, 4, 5, 200):
            self.assert_raises(NoNode, node, WEB, [0] * 4, node)
        self.assert_raises(NoNode, 0, Web([], 1), [0], 0)

    def test_not_reached(self):
        # Node 3 is behind a skip only; it has a skip of its own and the pupil does not come.
        self.assert_raises(NotReached, 3, WEB, [0] * 4, 3)
        self.assert_raises(NotReached, 1, Web([(1, -1, -1), (2, -1, -1)], 1), [0], 1)
        self.assert_raises(NotReached, 0, Web([(1, -1, -1, -1)], 1, start=-1), [0], 0)
        self.assert_raises(NotReached, 0, Web([(1, 1, 1, 1), (2, -1, -1, -1)], 1, start=1), [0], 0)

    def test_no_skip(self):
        # The pupil who answers nothing right does not come to node 1 either.
        self.assert_raises(NoSkip, 1, WEB, [0] * 4, 1)
        self.assert_raises(NoSkip, 1, WEB, [0] * 4, 1, Pupil([1]))

    def test_not_coming(self):
        for pupil in (Pupil([1]), Pupil([1, 2, 3]), Pupil(range(48))):
            with self.assertRaises(NotComing) as caught:
                guess(WEB, [0] * 4, 2, pupil)
            self.assertEqual(caught.exception.index, 2)
        self.assertEqual(guess(WEB, [0] * 4, 2, Pupil([3])), ("never",))
        self.assertEqual(guesses(WEB, [0] * 4, 2)[0][1], ("never",))


class Guess(unittest.TestCase):
    def test_the_example(self):
        told = guess(Web([(5, -1, -2, -3)], 3), [2, -1, 0], 0, Pupil([]))
        self.assertEqual([told[0], str(told[1])], ["above", "1/3"])

    def test_all_values(self):
        for right, wrong, skip in itertools.product(range(-3, 4), repeat=3):
            web, marks = three_ends(right, wrong, skip)
            wanted = answer_by_words(right, wrong, skip)
            for pupil in (Pupil([]), Pupil([5]), Pupil([4, 47])):
                found = guess(web, marks, 0, pupil)
                self.assertIsInstance(found, tuple)
                self.assertEqual(found, wanted)
                self.assertTrue(all(isinstance(part, Ratio) for part in found[1:]))
                self.assertEqual(guesses(web, marks, 0)[0][1], wanted)

    def test_the_meaning(self):
        """A guess is better than skipping for just the chances that the answer tells."""
        for right, wrong, skip in itertools.product(range(-2, 3), repeat=3):
            web, marks = three_ends(right, wrong, skip)
            word, *rest = guess(web, marks, 0, Pupil([]))
            for top in range(13):
                g = Ratio(top, 12)
                better = g * right + (1 - g) * wrong > skip
                told = {"above": lambda: g > rest[0], "below": lambda: g < rest[0],
                        "always": lambda: True, "never": lambda: False}[word]()
                self.assertIs(told, better)

    def test_ratios_of_all_kinds(self):
        for marks, word, text in (([2, 0, 1], "above", "1/2"), ([2, 0, -1], "above", "-1/2"), ([2, 0, 0], "above", "0"),
                                  ([2, 0, 2], "above", "1"), ([2, 0, 5], "above", "5/2"), ([0, 2, 1], "below", "1/2"),
                                  ([0, 2, 3], "below", "-1/2"), ([0, 2, 2], "below", "0"), ([0, 2, 0], "below", "1"),
                                  ([0, 2, -3], "below", "5/2")):
            told = guess(Web([(5, -1, -2, -3)], 3), marks, 0, Pupil([5]))
            self.assertEqual((told[0], str(told[1])), (word, text))
        for marks, word in (([1, 1, 0], "always"), ([1, 1, 1], "never"), ([1, 1, 2], "never"), ([0, 0, -1], "always")):
            self.assertEqual(guess(Web([(5, -1, -2, -3)], 3), tuple(marks), 0, Pupil([5])), (word,))

    def test_many_digits(self):
        big = 10 ** 20 - 1
        told = guess(Web([(5, -1, -2, -3)], 3), [big, -big, big - 1], 0, Pupil([]))
        self.assertEqual(told, ("above", Ratio(2 * big - 1, 2 * big)))
        told = guess(Web([(5, -1, -2, -3)], 3), [-big, big, big - 1], 0, Pupil([]))
        self.assertEqual(told, ("below", Ratio(1, 2 * big)))

    def test_other_skips_are_never_taken(self):
        # Behind each target of node 0 stands a node with a skip to end 2.
        web = Web([(1, 1, 2, 3), (2, -1, -2, -3), (3, -2, -1, -3), (4, -1, -2, -3)], 3)
        marks = [10, 0, 10 ** 6]
        self.assertEqual(guess(web, marks, 0, Pupil([2, 3, 4])), ("above", Ratio(1)))
        self.assertEqual(guess(web, marks, 0, Pupil([4])), ("below", Ratio(0)))
        self.assertEqual(guess(web, marks, 0, Pupil([2])), ("always",))
        self.assertEqual(guess(web, marks, 0, Pupil([3, 4])), ("never",))
        self.assertEqual(guess(web, marks, 1, Pupil([1, 2])), ("above", Ratio(10 ** 5)))
        self.assertEqual([ends for ends, _, _ in guesses(web, marks, 0)],
                         [ends for ends in itertools.product((0, 1), repeat=3)])

    def test_each_pupil_of_small_webs(self):
        checked = 0
        for web, marks, node in cases(1, 60):
            for rights in subsets(all_questions(web)):
                if comes(web, rights, node):
                    values = [marks[end_by_words(web, rights, target)] for target in web[node][1:]]
                    self.assertEqual(guess(web, marks, node, Pupil(rights)), answer_by_words(*values))
                    checked += 1
                else:
                    self.assertRaises(NotComing, guess, web, marks, node, Pupil(rights))
        self.assertGreater(checked, 500)


class Guesses(unittest.TestCase):
    def test_by_hand(self):
        found = guesses(WEB, [4, 0, 2, 1], 0)
        self.assertEqual([ends for ends, _, _ in found],
                         [(e, f, s) for e in (0, 1) for f in (1, 2) for s in (0, 3)])
        self.assertEqual([answer for ends, answer, _ in found if ends == (0, 2, 3)], [("above", Ratio(-1, 2))])
        self.assertEqual([ends for ends, _, _ in guesses(WEB, [0] * 4, 2)], [(1, 2, 3)])

    def test_against_all_pupils(self):
        several = 0
        for web, marks, node in cases(2, 60):
            kept = list(marks)
            found = guesses(web, marks, node)
            self.assertIsInstance(found, tuple)
            self.assertEqual(list(marks), kept)
            coming = [rights for rights in subsets(all_questions(web)) if comes(web, rights, node)]
            wanted = {tuple(end_by_words(web, rights, target) for target in web[node][1:]) for rights in coming}
            self.assertEqual([ends for ends, _, _ in found], sorted(wanted))
            several += len(wanted) > 1
            for ends, answer, pupil in found:
                self.assertIsInstance(ends, tuple)
                self.assertIsInstance(pupil, Pupil)
                self.assertTrue(comes(web, pupil.rights, node))
                self.assertEqual(tuple(end_of(web, pupil, target) for target in web[node][1:]), ends)
                self.assertEqual(answer, answer_by_words(*[marks[end] for end in ends]))
                self.assertEqual(answer, guess(web, marks, node, pupil))
        self.assertGreater(several, 20)

    def test_skips_on_the_way_are_not_taken(self):
        # A skip leads from node 0 to node 2, but right and wrong answers lead to node 1 and end 0.
        web = Web([(1, 1, -1, 2), (2, -1, 2, -2), (3, -2, -3, -1)], 3)
        self.assertEqual([(ends, pupil.rights) for ends, _, pupil in guesses(web, [0, 1, 2], 2)], [((1, 2, 0), (1,))])
        behind_skips = Web([(1, -1, -2, 1), (2, -1, -2, -1)], 2)
        self.assertRaises(NotReached, guesses, behind_skips, [0, 1], 1)
        self.assertNotIn(1, led_to(behind_skips.nodes, 0))


class Large(unittest.TestCase):
    def test_many_nodes(self):
        chance = random.Random(3)
        for layers, width in ((20, 10), (48, 4), (12, 16)):
            rows = layered(layers, width, 60)
            nodes = [(question, right, wrong, max(right, wrong)) for question, right, wrong in rows]
            web = Web(nodes, 60)
            marks = [chance.randrange(-10 ** 20, 10 ** 20) for _ in range(60)]
            with at_once(20):
                for node in (0, 2 * width, (layers - 4) * width, (layers - 1) * width):
                    found = guesses(web, marks, node)
                    ends, answer, pupil = chance.choice(found)
                    self.assertEqual(tuple(end_of(web, pupil, target) for target in web[node][1:]), ends)
                    self.assertEqual(answer, guess(web, marks, node, pupil))


if __name__ == "__main__":
    unittest.main()
