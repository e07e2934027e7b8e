import itertools
import random
import unittest

from helpers import at_once
from steppedtests.classes import bound_holds, depth, least_questions, tells
from steppedtests.errors import AlikePupils, BadLength, NoPupils
from steppedtests.pupils import Pupil

PUPILS = (Pupil([1, 2]), Pupil([2]), Pupil([3]), Pupil([]))
CLASSES = (7, 7, -5, 0)
QUESTIONS = (1, 2, 3)
TREE = ("ask", 2, ("class", 7), ("ask", 3, ("class", -5), ("class", 0)))
TABLE = (((0, 1, 2, 3), 2), ((1, 3), 1), ((0, 1, 3), 1), ((2, 3), 1), ((1, 2, 3), 2))
OTHER_VALUES = (None, True, False, 0, 5, "", "class", "ask", (), [], {}, ("class",), Pupil([1]))


def class_by_words(tree, pupil):
    if tree[0] == "class":
        return tree[1]
    return class_by_words(tree[2] if tree[1] in pupil else tree[3], pupil)


def depth_by_words(tree):
    return 0 if tree[0] == "class" else 1 + max(depth_by_words(tree[2]), depth_by_words(tree[3]))


def asked_in(tree):
    return set() if tree[0] == "class" else {tree[1]} | asked_in(tree[2]) | asked_in(tree[3])


def tells_by_words(pupils, classes, questions, tree):
    right = [class_by_words(tree, pupil) == own for pupil, own in zip(pupils, classes)]
    return asked_in(tree) <= set(questions) and all(right)


def all_trees(questions, kinds, most):
    """All trees of at most this depth."""
    trees = [("class", kind) for kind in kinds]
    if most > 0:
        parts = all_trees(questions, kinds, most - 1)
        trees += [("ask", q, right, wrong) for q in questions for right in parts for wrong in parts]
    return trees


def is_good_by_words(pupils, classes, questions, table):
    for group, number in table:
        if len({classes[k] for k in group}) < 2:
            return False
        for question in questions:
            right = tuple(k for k in group if question in pupils[k])
            wrong = tuple(k for k in group if question not in pupils[k])
            if number >= 2 and right and wrong:
                if not any(part in (right, wrong) and least >= number - 1 for part, least in table):
                    return False
    return True


def holds_by_words(pupils, classes, questions, table, n):
    everybody = tuple(range(len(pupils)))
    shown = any(group == everybody and number >= n for group, number in table)
    return is_good_by_words(pupils, classes, questions, table) and (n == 0 or shown)


def groups_by_words(pupils, classes, questions):
    """The least depth for each group of pupils whose classes can be told, from small groups to large ones."""
    least = {}
    numbers = range(len(pupils))
    for size in range(1, len(pupils) + 1):
        for group in itertools.combinations(numbers, size):
            found = [0] if len({classes[k] for k in group}) == 1 else []
            for question in questions:
                right = tuple(k for k in group if question in pupils[k])
                wrong = tuple(k for k in group if question not in pupils[k])
                if right and wrong and right in least and wrong in least:
                    found.append(1 + max(least[right], least[wrong]))
            if found:
                least[group] = min(found)
    return least


def random_case(chance, most_pupils, most_questions, kinds):
    count = chance.randrange(1, most_pupils + 1)
    questions = sorted(chance.sample(range(48), chance.randrange(most_questions + 1)))
    pupils = [Pupil(chance.sample(range(48), 24)) for _ in range(count)]
    pupils = [chance.choice(pupils) if chance.randrange(4) == 0 else pupil for pupil in pupils]
    return pupils, [chance.randrange(kinds) for _ in range(count)], questions


def alike_by_words(pupils, classes, questions):
    """The least pair of pupils who have unlike classes and answer all alike, or None."""
    for first, second in itertools.combinations(range(len(pupils)), 2):
        alike = all((q in pupils[first]) == (q in pupils[second]) for q in questions)
        if alike and classes[first] != classes[second]:
            return first, second
    return None


def cases(seed, number, most_pupils=6, most_questions=5, kinds=3):
    """Pupils, classes and questions that tell the classes."""
    chance = random.Random(seed)
    found = 0
    while found < number:
        case = random_case(chance, most_pupils, most_questions, kinds)
        if alike_by_words(*case) is None:
            found += 1
            yield case


def chain(length):
    """A tree of this depth."""
    tree = ("class", 0)
    for k in range(length):
        tree = ("ask", k % 48, tree, ("class", k))
    return tree


class Depths(unittest.TestCase):
    def test_by_hand(self):
        self.assertEqual(depth(("class", 5)), 0)
        self.assertEqual(depth(("class", -10 ** 20)), 0)
        self.assertEqual(depth(("ask", 1, ("class", 1), ("class", 2))), 1)
        self.assertEqual(depth(TREE), 2)
        self.assertEqual(depth(("ask", 1, TREE, ("class", 2))), 3)
        self.assertEqual(depth(("ask", 1, ("class", 2), TREE)), 3)
        self.assertEqual(depth(("ask", 1, TREE, TREE)), 3)

    def test_all_small_trees(self):
        for tree in all_trees((3, 9), (0, 1), 2):
            self.assertEqual(depth(tree), depth_by_words(tree))

    def test_60(self):
        for length in (59, 60, 61):
            self.assertEqual(depth(chain(length)), length)
        turned = ("class", 0)
        for _ in range(60):
            turned = ("ask", 5, ("class", 1), turned)
        self.assertEqual(depth(turned), 60)

    def test_10000_parts(self):
        trees = [("class", k) for k in range(4096)]
        while len(trees) > 1:
            trees = [("ask", 1, first, second) for first, second in zip(trees[::2], trees[1::2])]
        with at_once(5):
            self.assertEqual(depth(trees[0]), 12)
            self.assertIs(tells(PUPILS, (0, 0, 4095, 4095), (1,), trees[0]), False)
            self.assertIs(tells(PUPILS, (0, 4095, 4095, 4095), (1,), trees[0]), True)


class Tells(unittest.TestCase):
    def test_by_hand(self):
        self.assertIs(tells(PUPILS, CLASSES, QUESTIONS, TREE), True)
        self.assertIs(tells(list(PUPILS), list(CLASSES), list(QUESTIONS), TREE), True)
        self.assertIs(tells(PUPILS, CLASSES, (2, 3), TREE), True)
        self.assertIs(tells(PUPILS, (5, 5, 5, 5), (), ("class", 5)), True)
        self.assertIs(tells((), (), (), ("class", 5)), True)

    def test_questions_that_are_not_given(self):
        for questions in ((), (1,), (2,), (3,), (1, 2), (1, 3)):
            self.assertIs(tells(PUPILS, CLASSES, questions, TREE), False)

    def test_wrong_classes(self):
        for classes in ((7, 7, -5, 1), (7, 6, -5, 0), (6, 7, -5, 0), (7, 7, 5, 0), (7, 7, 0, -5)):
            self.assertIs(tells(PUPILS, classes, QUESTIONS, TREE), False)

    def test_parts_that_are_never_reached(self):
        for part, wanted in ((("class", 9), True), (("ask", 1, ("class", 8), ("class", 7)), True),
                             (("ask", 4, ("class", 8), ("class", 7)), False), (("class", True), False), (None, False),
                             (("class", "7"), False), (("ask", 1, ("class", 8), None), False), ([], False)):
            for tree in (("ask", 2, ("ask", 2, ("class", 7), part), TREE[3]),
                         ("ask", 2, ("class", 7), ("ask", 2, part, TREE[3]))):
                self.assertIs(tells(PUPILS, CLASSES, QUESTIONS, tree), wanted)

    def test_other_shapes(self):
        wrong = [*OTHER_VALUES, ("class", None), ("class", "7"), ("class", True), ("class", False), ("class", (7,)),
                 ("class", 7, 7), ["class", 7], ("ask", 7), ("Class", 7), (7, "class"), (7,), ((), ()), (None, 7),
                 ("ask", 2, ("class", 7)), ("ask", 2, ("class", 7), ("class", 7), ("class", 7)),
                 ["ask", 2, ("class", 7), ("class", 7)], ("asks", 2, ("class", 7), ("class", 7)),
                 (2, "ask", ("class", 7), ("class", 7)), ("ask", None, ("class", 7), ("class", 7)),
                 ("ask", "2", ("class", 7), ("class", 7)), ("ask", (2,), ("class", 7), ("class", 7)),
                 ("ask", True, ("class", 7), ("class", 7)), ("class", 2, ("class", 7), ("class", 7)), b"class"]
        for value in wrong:
            self.assertIs(tells((), (), (0, 1, 2, 3), value), False)
            for tree in (("ask", 2, value, TREE[3]), ("ask", 2, TREE[2], value),
                         ("ask", 2, TREE[2], ("ask", 3, value, value)),
                         ("ask", 2, TREE[2], ("ask", 3, ("class", -5), value))):
                self.assertIs(tells(PUPILS, CLASSES, (0, *QUESTIONS), tree), False)
        for question in (None, True, "2", 2.5, [2], (2,), Pupil([2]), -1, 48):
            self.assertIs(tells(PUPILS, CLASSES, QUESTIONS, ("ask", question, ("class", 7), TREE[3])), False)
        self.assertIs(tells((Pupil([1]),), (1,), (0, 1), ("ask", True, ("class", 1), ("class", 1))), False)
        self.assertIs(tells((Pupil([1]),), (1,), (0, 1), ("class", True)), False)

    def test_all_small_trees(self):
        chance = random.Random(1)
        trees = all_trees((3, 9), (0, 1), 2)
        for _ in range(20):
            pupils = [Pupil(rights) for rights in chance.choices([(), (3,), (9,), (3, 9)], k=4)]
            classes = [chance.randrange(2) for _ in pupils]
            for questions in ((3, 9), (3,), ()):
                for tree in trees:
                    wanted = tells_by_words(pupils, classes, questions, tree)
                    self.assertIs(tells(pupils, classes, questions, tree), wanted)

    def test_a_depth_of_60(self):
        pupil = Pupil(range(48))
        for length in (59, 60, 61):
            self.assertIs(tells([pupil], [0], range(48), chain(length)), True)
            self.assertIs(tells([pupil], [1], range(48), chain(length)), False)
            self.assertIs(tells([Pupil([])], [length - 1], tuple(range(48)), chain(length)), True)


class Errors(unittest.TestCase):
    def assert_raises(self, error, values, *arguments):
        with self.subTest((error, arguments)), self.assertRaises(error) as caught:
            least_questions(*arguments)
        self.assertEqual(list(vars(caught.exception).values()), values)

    def test_no_pupils(self):
        for classes in ((), [], (1,), (1, 2)):
            self.assert_raises(NoPupils, [], (), classes, QUESTIONS)
            self.assert_raises(NoPupils, [], [], classes, ())

    def test_other_numbers_of_classes(self):
        for classes in ((), [1], (1, 2, 3), (1, 1, 1, 1, 1)):
            self.assert_raises(BadLength, [len(classes)], PUPILS, classes, QUESTIONS)
            # Nobody is told apart by no questions, but the classes are looked at first.
            self.assert_raises(BadLength, [len(classes)], PUPILS, classes, ())

    def test_alike_pupils(self):
        self.assert_raises(AlikePupils, [0, 2], PUPILS, CLASSES, ())
        self.assert_raises(AlikePupils, [2, 3], PUPILS, CLASSES, (1, 2))
        self.assert_raises(AlikePupils, [0, 1], PUPILS, (1, 2, 3, 4), (2, 3))
        self.assert_raises(AlikePupils, [1, 2], PUPILS, (5, 5, 4, 4), (1,))
        self.assert_raises(AlikePupils, [0, 3], [Pupil([1])] * 4, (5, 5, 5, 4), (1, 2))
        pupils = [Pupil([2]), Pupil([1]), Pupil([2]), Pupil([1, 9])]
        self.assert_raises(AlikePupils, [1, 3], pupils, (1, 2, 1, 3), (1, 2))

    def test_the_least_pair(self):
        chance = random.Random(2)
        raised = 0
        for _ in range(300):
            case = random_case(chance, 8, 3, 3)
            pair = alike_by_words(*case)
            if pair is None:
                least_questions(*case)
            else:
                raised += 1
                self.assert_raises(AlikePupils, list(pair), *case)
        self.assertTrue(50 < raised < 280)


class Least(unittest.TestCase):
    def check(self, pupils, classes, questions):
        """The tree and the table show, by the words of the document, that the number is right."""
        found = least_questions(pupils, classes, questions)
        self.assertIsInstance(found, tuple)
        number, tree, table = found
        self.assertTrue(tells_by_words(pupils, classes, questions, tree))
        self.assertEqual(depth_by_words(tree), number)
        self.assertIsInstance(table, tuple)
        for group, least in table:
            self.assertEqual(group, tuple(sorted(set(group))))
            self.assertGreaterEqual(least, 1)
        self.assertTrue(holds_by_words(pupils, classes, questions, table, number))
        self.assertIs(tells(pupils, classes, questions, tree), True)
        self.assertEqual(depth(tree), number)
        for n in range(number + 1):
            self.assertIs(bound_holds(pupils, classes, questions, table, n), True)
        self.assertIs(bound_holds(pupils, classes, questions, table, number + 1), False)
        return number

    def test_by_hand(self):
        self.assertEqual(self.check(PUPILS, CLASSES, QUESTIONS), 2)
        self.assertEqual(self.check(list(PUPILS), list(CLASSES), list(QUESTIONS)), 2)
        self.assertEqual(self.check(PUPILS, (1, 1, 2, 2), QUESTIONS), 1)
        self.assertEqual(self.check(PUPILS, (1, 2, 3, 4), QUESTIONS), 2)
        self.assertEqual(self.check([Pupil([k]) for k in range(8)], list(range(8)), list(range(8))), 7)
        self.assertEqual(self.check([Pupil([k]) for k in range(8)], [0] * 4 + [1] * 4, list(range(8))), 4)
        binary = [Pupil([bit for bit in range(3) if k >> bit & 1]) for k in range(8)]
        self.assertEqual(self.check(binary, list(range(8)), (0, 1, 2)), 3)
        self.assertEqual(self.check(binary, [k.bit_count() % 2 for k in range(8)], (0, 1, 2)), 3)
        self.assertEqual(self.check(binary, [int(k.bit_count() > 1) for k in range(8)], (0, 1, 2)), 3)
        self.assertEqual(self.check(binary, [k >> 1 & 1 for k in range(8)], (0, 1, 2)), 1)

    def test_one_class(self):
        for pupils in (PUPILS[:1], PUPILS, [Pupil([5])] * 8):
            for questions in ((), (1,), (1, 2, 3)):
                found = least_questions(pupils, [-3] * len(pupils), questions)
                self.assertEqual(found, (0, ("class", -3), ()))

    def test_pupils_that_are_twice_there(self):
        pupils = [Pupil([1]), Pupil([1]), Pupil([2]), Pupil([2]), Pupil([1])]
        self.assertEqual(self.check(pupils, [4, 4, 6, 6, 4], (1, 2)), 1)
        self.assertEqual(self.check(pupils + [Pupil([])], [4, 4, 6, 6, 4, 0], (1, 2)), 2)

    def test_small_cases(self):
        for pupils, classes, questions in cases(3, 200):
            kept = (list(pupils), list(classes), list(questions))
            number = self.check(pupils, classes, questions)
            self.assertEqual((pupils, classes, questions), kept)
            everybody = tuple(range(len(pupils)))
            self.assertEqual(number, groups_by_words(pupils, classes, questions)[everybody])

    def test_against_all_trees(self):
        """No tree of a lesser depth tells the classes."""
        numbers = set()
        for pupils, classes, questions in cases(4, 150, most_pupils=5, most_questions=3, kinds=2):
            number = self.check(pupils, classes, questions)
            numbers.add(number)
            if 0 < number <= 2 or number == 3 and len(questions) < 3:
                for tree in all_trees(questions, sorted(set(classes)), number - 1):
                    self.assertFalse(tells_by_words(pupils, classes, questions, tree))
        self.assertTrue({0, 1, 2} <= numbers)

    def test_8_pupils_and_8_questions(self):
        chance = random.Random(5)
        numbers = set()
        for _ in range(40):
            kinds = chance.choice((2, 3, 8))
            pupils = [Pupil(chance.sample(range(8), chance.choice((1, 2, 4)))) for _ in range(8)]
            classes = [chance.randrange(kinds) for _ in pupils]
            if alike_by_words(pupils, classes, range(8)) is None:
                with at_once(5):
                    numbers.add(self.check(pupils, classes, list(range(8))))
        self.assertGreater(len(numbers), 2)


class Bounds(unittest.TestCase):
    def holds(self, table, n=0, classes=CLASSES, questions=QUESTIONS):
        return bound_holds(PUPILS, classes, questions, table, n)

    def test_by_hand(self):
        for n, wanted in ((0, True), (1, True), (2, True), (3, False), (60, False)):
            self.assertIs(self.holds(TABLE, n), wanted)
            self.assertIs(bound_holds(list(PUPILS), list(CLASSES), list(QUESTIONS), TABLE, n), wanted)
        self.assertIs(self.holds((), 0), True)
        self.assertIs(self.holds((), 1), False)
        self.assertIs(self.holds((((0, 1, 2, 3), 1),), 1), True)
        self.assertIs(self.holds((((2, 3), 1),), 0), True)
        self.assertIs(self.holds((((2, 3), 1),), 1), False)
        self.assertIs(bound_holds((), (), (), (), 0), True)
        self.assertIs(bound_holds((), (), (), (), 1), False)

    def test_pairs_that_are_missing(self):
        # All pupils: question 1 parts off (1, 2, 3), question 2 (2, 3), question 3 (0, 1, 3).
        self.assertIs(self.holds(TABLE[:4], 2), False)
        for left in ((1, 2), (1, 3), (2, 3), (0, 4)):
            table = tuple(pair for k, pair in enumerate(TABLE) if k not in left)
            self.assertIs(self.holds(table, 2), holds_by_words(PUPILS, CLASSES, QUESTIONS, table, 2))
        self.assertIs(self.holds((TABLE[0], ((0, 1, 3), 1), ((2, 3), 1), ((1, 2, 3), 1)), 2), True)
        self.assertIs(self.holds((TABLE[0], ((0, 1, 3), 1), ((1, 2, 3), 1)), 2), False)
        self.assertIs(self.holds((TABLE[0], ((2, 3), 1), ((1, 2, 3), 1)), 2), False)
        self.assertIs(self.holds((TABLE[0], ((0, 1, 3), 1), ((2, 3), 1)), 2), False)

    def test_a_group_twice(self):
        table = (((2, 3), 1), ((2, 3), 1), ((0, 1, 2, 3), 1), ((0, 1, 2, 3), 1))
        self.assertIs(self.holds(table, 1), True)
        good = (((0, 1, 2, 3), 1), *TABLE, ((1, 2, 3), 1))
        self.assertIs(self.holds(good, 2), True)
        self.assertIs(self.holds(good[::-1], 2), True)

    def test_groups_of_one_class(self):
        for group in ((), (0,), (3,), (0, 1)):
            self.assertIs(self.holds(((group, 1),)), False)
            self.assertIs(self.holds((*TABLE, (group, 1)), 2), False)
            self.assertIs(self.holds(((group, 1), *TABLE), 0), False)
        self.assertIs(self.holds((((0, 1, 2, 3), 1),), 1, classes=(5, 5, 5, 5)), False)

    def test_numbers_that_are_raised(self):
        for k in range(len(TABLE)):
            table = list(TABLE)
            table[k] = (table[k][0], table[k][1] + 1)
            wanted = is_good_by_words(PUPILS, CLASSES, QUESTIONS, table)
            self.assertIs(self.holds(tuple(table), 2), wanted)
            self.assertIs(self.holds(tuple(table), 0), wanted)
        self.assertIs(self.holds((((0, 1, 2, 3), 3), *TABLE[1:]), 3), False)

    def test_groups_that_are_exchanged(self):
        answers = set()
        for first, second in itertools.combinations(range(len(TABLE)), 2):
            table = list(TABLE)
            table[first], table[second] = (TABLE[second][0], TABLE[first][1]), (TABLE[first][0], TABLE[second][1])
            for n in range(4):
                wanted = holds_by_words(PUPILS, CLASSES, QUESTIONS, table, n)
                self.assertIs(self.holds(tuple(table), n), wanted)
                answers.add((n, wanted))
        self.assertLessEqual({(0, True), (0, False), (2, True), (2, False), (3, False)}, answers)

    def test_groups_that_no_question_parts(self):
        # Without questions no tree tells pupils of two classes, so every number is right.
        self.assertIs(self.holds((((0, 1, 2, 3), 10 ** 9),), 10 ** 9, questions=()), True)
        self.assertIs(self.holds((((2, 3), 5),), 0, questions=(1, 2)), True)

    def test_other_groups(self):
        for group in ((1, 0, 2, 3), (0, 0, 2, 3), (0, 1, 2, 4), (-1, 0, 2, 3), (0, 2, 1, 3), (2, 2), (3, 2), (2, 4),
                      (2, 48), (-2, -1)):
            self.assertIs(self.holds(((group, 1),)), False)
            self.assertIs(self.holds((*TABLE, (group, 1)), 2), False)

    def test_other_shapes(self):
        for value in (*OTHER_VALUES[:4], 5, "", "class", [], {}, [((2, 3), 1)], [(2, 3), 1], ((2, 3), 1), "ab"):
            if value != ():
                self.assertIs(self.holds(value), False)
        for pair in (*OTHER_VALUES, [(2, 3), 1], ((2, 3),), ((2, 3), 1, 1), (1, (2, 3)), ((2, 3), (1,))):
            self.assertIs(self.holds((pair,)), False)
            self.assertIs(self.holds((*TABLE, pair), 2), False)
        for group in (None, True, 5, "23", [2, 3], {2: 3}, (2, "3"), (2, None), (False, 2), (True, 2), (2, (3,)),
                      (0, 2.0), Pupil([2, 3])):
            self.assertIs(self.holds(((group, 1),)), False)
            self.assertIs(self.holds((*TABLE, (group, 1)), 2), False)
        for number in (None, True, False, "1", 0, -1, -10 ** 9, (1,), [1], 1.0):
            self.assertIs(self.holds((((2, 3), number),)), False)
            self.assertIs(self.holds((*TABLE, ((2, 3), number)), 2), False)

    def test_random_tables(self):
        """Tables are taken as the words say, and what they show is never more than the least depth."""
        chance = random.Random(6)
        good = bad = shown = 0
        for pupils, classes, questions in cases(7, 300, most_pupils=5, most_questions=4):
            least = groups_by_words(pupils, classes, questions)
            everybody = tuple(range(len(pupils)))
            rows = [(group, number) for group, number in least.items() if number > 0]
            for _ in range(5):
                wrong = chance.choice((0, 1, 1, 5))
                table = [(group, chance.choice((1, number, number + 1)) if chance.randrange(20) < wrong else number)
                         for group, number in rows if chance.randrange(20) >= wrong]
                table = tuple(chance.sample(table, len(table)))
                for n in range(5):
                    wanted = holds_by_words(pupils, classes, questions, table, n)
                    self.assertIs(bound_holds(pupils, classes, questions, table, n), wanted)
                    good += wanted
                    bad += not wanted
                    if wanted:
                        shown += n > 1
                        self.assertLessEqual(n, least[everybody])
        self.assertTrue(good > 500 and bad > 500 and shown > 50)


if __name__ == "__main__":
    unittest.main()
