import itertools
import random
import unittest

from helpers import (at_once, end_by_words, end_pairs, ends_of_all, layered, random_marks, shuffled_layers, small_grids,
                     small_webs, subsets)
from steppedtests.errors import BadMarks, NoEnd
from steppedtests.harms import harm
from steppedtests.ladders import Ladder, build
from steppedtests.pupils import Pupil
from steppedtests.scales import arrows, fullest_scale, is_fair, parting_scale, rests, ring, ring_holds
from steppedtests.webs import Web

WEB = Web([(1, 1, 2), (2, -1, -2), (3, -3, -4)], 4)
CROSSED = Web([(1, 1, 2), (2, -1, -2), (2, -2, -1)], 3)


def webs(seed, number):
    """Small webs of several kinds."""
    yield from small_webs(seed, number // 2)
    yield from small_grids(seed, number // 4)
    yield from small_grids(seed + 1, number // 4, layers=2, width=5, ends=6)


def arrows_by_words(web):
    return {(e, f) for e, f in end_pairs(web) if e != f}


def leads_by_words(web):
    """All pairs of ends of which the first one leads to the second one."""
    pairs = arrows_by_words(web) | {(e, e) for e in range(web.ends)}
    for k, e, f in itertools.product(range(web.ends), repeat=3):
        if (e, k) in pairs and (k, f) in pairs:
            pairs.add((e, f))
    return pairs


def rests_by_words(web):
    """Of all orders in which no arrow leads back, the one whose least ends are the least."""
    leads = leads_by_words(web)
    groups = {tuple(f for f in range(web.ends) if {(e, f), (f, e)} <= leads) for e in range(web.ends)}
    good = []
    for order in itertools.permutations(groups):
        if not any((later[0], earlier[0]) in leads for earlier, later in itertools.combinations(order, 2)):
            good.append(order)
    return min(good, key=lambda order: [group[0] for group in order])


def holds_by_words(web, pairs):
    """Point 30, for pairs (rights, question)."""
    if not pairs or any(question in rights or not 0 <= question <= 47 for rights, question in pairs):
        return False
    for k, (rights, question) in enumerate(pairs):
        following = pairs[(k + 1) % len(pairs)][0]
        if end_by_words(web, (*rights, question)) != end_by_words(web, following):
            return False
    return True


def counting(layers, ends):
    """Each layer asks its own number; the end is the number of rights modulo the number of ends."""
    places = [(layer, rights) for layer in range(layers) for rights in range(min(layer + 1, ends))]
    numbers = {place: k for k, place in enumerate(places)}
    for rights in range(ends):
        numbers[layers, rights] = -1 - rights
    return Web([(layer, numbers[layer + 1, (rights + 1) % ends], numbers[layer + 1, rights])
                for layer, rights in places], ends)


class Arrows(unittest.TestCase):
    def test_by_hand(self):
        self.assertEqual(arrows(WEB), ((1, 0), (2, 0), (2, 1), (3, 0), (3, 1), (3, 2)))
        self.assertEqual(arrows(CROSSED), ((0, 1), (1, 0)))
        self.assertEqual(arrows(Web([(1, -1, -1)], 2)), ())
        for web in (Web([], 3), Web([(1, -1, -2)], 2, start=-1)):
            self.assertEqual(arrows(web), ())

    def test_small_webs(self):
        for web in webs(1, 300):
            self.assertEqual(arrows(web), tuple(sorted(arrows_by_words(web))))


class Rests(unittest.TestCase):
    def test_the_example_of_the_document(self):
        self.assertEqual([rests(WEB), fullest_scale(WEB)], [((3,), (2,), (1,), (0,)), (3, 2, 1, 0)])

    def test_several_could_come_next(self):
        self.assertEqual(rests(Web([], 4)), ((0,), (1,), (2,), (3,)))
        self.assertEqual(rests(Web([(1, -2, -5)], 5)), ((0,), (2,), (3,), (4,), (1,)))
        self.assertEqual(rests(Web([(1, -5, -2)], 5)), ((0,), (1,), (2,), (3,), (4,)))
        self.assertEqual(rests(Web([(1, -1, -3)], 4)), ((1,), (2,), (0,), (3,)))

    def test_rests_of_several_ends(self):
        self.assertEqual(rests(CROSSED), ((0, 1), (2,)))
        self.assertEqual(fullest_scale(CROSSED), (0, 0, 1))
        web = Web([(1, 1, 2), (2, -4, -2), (2, -2, -4)], 5)
        self.assertEqual(rests(web), ((0,), (1, 3), (2,), (4,)))
        self.assertEqual(fullest_scale(web), (0, 1, 2, 1, 3))

    def test_small_webs(self):
        large = 0
        for web in webs(2, 300):
            found = rests(web)
            self.assertEqual(found, rests_by_words(web))
            self.assertEqual(sorted(itertools.chain(*found)), list(range(web.ends)))
            large += max(len(rest) for rest in found) > 1
        self.assertGreater(large, 20)


class Fair(unittest.TestCase):
    def test_by_hand(self):
        for marks, fair in (([3, 2, 1, 0], True), ([3, 1, 2, 0], False), ([1, 1, 1, 1], True), ([2, 2, 1, 1], True),
                            ((-1, -2, -2, -3), True), ([10 ** 20, 10 ** 20, 10 ** 20, 10 ** 20 + 1], False)):
            self.assertIs(is_fair(WEB, marks), fair)

    def test_small_webs(self):
        chance = random.Random(3)
        found = []
        for web in webs(3, 300):
            for marks in (random_marks(chance, web.ends), fullest_scale(web)):
                fair = all(marks[e] <= marks[f] for e, f in arrows_by_words(web))
                self.assertIs(is_fair(web, marks), fair)
                self.assertIs(harm(web, marks).found, not fair)
                found.append(fair)
        self.assertGreater(found.count(False), 50)

    def test_wrong_numbers_of_marks(self):
        for web in (WEB, Web([], 4)):
            for count in (0, 3, 5, 60):
                with self.assertRaises(BadMarks) as caught:
                    is_fair(web, [1] * count)
                self.assertEqual(caught.exception.count, count)

    def test_lists_stay(self):
        marks = [3, 1, 2, 0]
        is_fair(WEB, marks)
        self.assertEqual(marks, [3, 1, 2, 0])


class Fullest(unittest.TestCase):
    def test_no_fair_marks_have_more_different_marks(self):
        for web in small_grids(4, 40, layers=3, ends=4):
            pairs = arrows_by_words(web)
            scale = fullest_scale(web)
            self.assertTrue(all(scale[e] <= scale[f] for e, f in pairs))
            most = max(len(set(marks)) for marks in itertools.product(range(web.ends), repeat=web.ends)
                       if all(marks[e] <= marks[f] for e, f in pairs))
            self.assertEqual(len(set(scale)), most)

    def test_it_numbers_the_rests(self):
        for web in webs(5, 200):
            scale = fullest_scale(web)
            self.assertIsInstance(scale, tuple)
            for number, rest in enumerate(rests(web)):
                self.assertEqual({scale[e] for e in rest}, {number})

    def test_a_web_without_nodes(self):
        self.assertEqual(fullest_scale(Web([], 3, start=-2)), (0, 1, 2))


class Parting(unittest.TestCase):
    def test_by_hand(self):
        self.assertEqual(parting_scale(WEB, 3, 1), (1, 1, 0, 0))
        self.assertEqual(parting_scale(WEB, 1, 0), (1, 0, 0, 0))
        self.assertIsNone(parting_scale(WEB, 1, 3))
        self.assertIsNone(parting_scale(CROSSED, 0, 1))
        self.assertEqual(parting_scale(CROSSED, 0, 2), (0, 0, 1))
        self.assertEqual(parting_scale(CROSSED, 2, 0), (1, 1, 0))
        for e in range(4):
            self.assertIsNone(parting_scale(WEB, e, e))
            self.assertIsNone(parting_scale(Web([], 4), e, e))
        self.assertEqual(parting_scale(Web([], 4), 1, 3), (0, 0, 0, 1))

    def test_small_webs(self):
        for web in webs(6, 200):
            leads, pairs = leads_by_words(web), arrows_by_words(web)
            fair = [marks for marks in itertools.product((0, 1), repeat=web.ends)
                    if all(marks[e] <= marks[f] for e, f in pairs)]
            for e, f in itertools.product(range(web.ends), repeat=2):
                found = parting_scale(web, e, f)
                self.assertEqual(found is not None, any(marks[e] < marks[f] for marks in fair))
                if found is not None:
                    self.assertIsInstance(found, tuple)
                    self.assertEqual(found, tuple(int((f, end) in leads) for end in range(web.ends)))
                    self.assertIn(found, fair)
                    self.assertLess(found[e], found[f])


class NoEnds(unittest.TestCase):
    def test_the_first_one_is_told(self):
        for function in (parting_scale, ring):
            for e, f, wrong in ((4, 0, 4), (0, 4, 4), (-1, 9, -1), (9, -1, 9), (0, -1, -1), (3, -4, -4), (5, 5, 5),
                                (10 ** 20, 0, 10 ** 20)):
                for web in (WEB, Web([], 4)):
                    with self.subTest((function, e, f)), self.assertRaises(NoEnd) as caught:
                        function(web, e, f)
                    self.assertEqual(caught.exception.number, wrong)


class Rings(unittest.TestCase):
    def check(self, web, e, f):
        """The ring holds by the words of point 30, begins at e and comes to f."""
        found = ring(web, e, f)
        if found is None:
            return False
        self.assertIsInstance(found, tuple)
        for pair in found:
            self.assertIsInstance(pair, tuple)
            self.assertIsInstance(pair[0], Pupil)
        pairs = [(pupil.rights, question) for pupil, question in found]
        self.assertTrue(holds_by_words(web, pairs))
        self.assertIs(ring_holds(web, found), True)
        ends = [end_by_words(web, rights) for rights, _ in pairs]
        self.assertEqual(ends[0], e)
        self.assertIn(f, ends)
        return True

    def test_by_hand(self):
        for e, f in itertools.product(range(4), repeat=2):
            self.assertIs(self.check(WEB, e, f), e == f)
        for e, f in itertools.product(range(3), repeat=2):
            self.assertIs(self.check(CROSSED, e, f), e < 2 and f < 2)

    def test_small_webs(self):
        long = 0
        for web in webs(7, 200):
            leads, reached = leads_by_words(web), set(ends_of_all(web).values())
            for e, f in itertools.product(range(web.ends), repeat=2):
                wanted = e in reached and {(e, f), (f, e)} <= leads
                self.assertIs(self.check(web, e, f), wanted)
                long += wanted and len(ring(web, e, f)) > 3
        self.assertGreater(long, 0)

    def test_a_web_without_nodes(self):
        web = Web([], 3, start=-2)
        for e, f in itertools.product(range(3), repeat=2):
            self.assertIs(self.check(web, e, f), e == f == 1)

    def test_all_ends_of_a_ring_have_the_same_fair_marks(self):
        for web in webs(8, 100):
            scale = fullest_scale(web)
            for e, f in itertools.product(range(web.ends), repeat=2):
                found = ring(web, e, f)
                if found is not None:
                    marks = {scale[end_by_words(web, pupil.rights)] for pupil, _ in found}
                    self.assertEqual(len(marks), 1)

    def test_many_pairs(self):
        """One more right answer leads from each end to the next one only."""
        web = counting(8, 6)
        for e, f in itertools.product(range(6), repeat=2):
            self.assertTrue(self.check(web, e, f))
            self.assertEqual(len(ring(web, e, f)), 1 if e == f else 6)
        self.assertEqual(rests(web), (tuple(range(6)),))


class AllQuestions(unittest.TestCase):
    """Webs that ask all 48 questions on some ways, so that nothing is left to add."""

    check = Rings.check

    def test_one_more_right_answer_changes_the_end(self):
        web = counting(48, 2)
        with at_once(5):
            for e, f in itertools.product(range(2), repeat=2):
                self.assertTrue(self.check(web, e, f))
            self.assertEqual(len(ring(web, 0, 0)), 2)

    def test_a_pupil_with_all_questions_makes_no_pair(self):
        nodes = [(k, k + 1 if k < 47 else -2, -1) for k in range(48)]
        web = Web(nodes, 2)
        self.assertIs(self.check(web, 1, 1), False)
        self.assertIs(self.check(web, 0, 0), True)
        self.assertIs(self.check(web, 0, 1), False)
        self.assertIs(self.check(web, 1, 0), False)

    def test_a_pupil_without_questions(self):
        web = Web([(k, -1, k + 1 if k < 47 else -2) for k in range(48)], 2)
        self.assertIs(self.check(web, 1, 1), False)
        self.assertIs(self.check(web, 0, 0), True)

    def test_a_question_of_the_way_that_does_not_change_the_end(self):
        web = Web([(k, k + 1, k + 1) for k in range(47)] + [(47, -1, -2)], 2)
        for e in range(2):
            self.assertIs(self.check(web, e, e), True)
        self.assertIs(self.check(web, 0, 1), False)

    def test_a_shorter_way_behind_a_longer_one(self):
        """Pupil {0} comes to end 0 by all 48 questions, and pupil {1} by two of them."""
        nodes = [(0, 1, 48)] + [(k, -3, k + 1 if k < 47 else -1) for k in range(1, 48)] + [(1, -1, -2)]
        web = Web(nodes, 3)
        self.assertEqual(rests(web), ((1,), (0,), (2,)))
        for e, f in itertools.product(range(3), repeat=2):
            self.assertIs(self.check(web, e, f), e == f)
        self.assertEqual(len(ring(web, 0, 0)), 1)

    def test_a_longer_and_a_shorter_way(self):
        """End 0 is come to by all 48 questions and by 47 of them."""
        web = Web([(k, k + 1, k + 1) for k in range(46)] + [(46, 47, -1), (47, -2, -1)], 2)
        self.assertIs(self.check(web, 0, 0), True)
        self.assertIs(self.check(web, 1, 1), True)


class Holding(unittest.TestCase):
    def test_by_hand(self):
        one, two, three = (Pupil([2]), 1), (Pupil([7]), 2), (Pupil([]), 30)
        for pairs, holds in (((one, two), True), ((two, one), True), ((one,), False), ((two,), False), ((three,), True),
                             ((one, two, three), False), ((one, three, two), True), ((three, two, one), True),
                             ((one, two, one), False), ((one, two, one, two), True), ((one, one), False)):
            self.assertIs(ring_holds(CROSSED, pairs), holds)

    def test_lists(self):
        pairs = [[Pupil([]), 2], [Pupil([2]), 1]]
        self.assertIs(ring_holds(CROSSED, pairs), True)
        self.assertIs(ring_holds(CROSSED, pairs[:1]), False)
        self.assertEqual(pairs, [[Pupil([]), 2], [Pupil([2]), 1]])

    def test_the_empty_ring(self):
        for web in (WEB, CROSSED, Web([], 1)):
            self.assertIs(ring_holds(web, ()), False)
            self.assertIs(ring_holds(web, []), False)

    def test_questions(self):
        pupil = Pupil([2, 9])
        for question in range(-3, 52):
            wanted = 0 <= question <= 47 and question not in (1, 2, 9)
            self.assertIs(ring_holds(CROSSED, ((pupil, question),)), wanted)
        for question in (10 ** 20, -10 ** 20):
            self.assertIs(ring_holds(CROSSED, ((pupil, question),)), False)
        every = Pupil(range(48))
        for question in (-1, 0, 47, 48):
            self.assertIs(ring_holds(CROSSED, ((every, question),)), False)

    def test_a_wrong_question_in_a_later_pair(self):
        good = (Pupil([2]), 30)
        for question in (2, -1, 48):
            self.assertIs(ring_holds(CROSSED, (good, (Pupil([2]), question))), False)
            self.assertIs(ring_holds(CROSSED, ((Pupil([2]), question), good)), False)
        self.assertIs(ring_holds(CROSSED, (good, good, good)), True)

    def test_pairs_left_out_or_exchanged(self):
        checked = 0
        for web in webs(9, 100):
            for e, f in itertools.product(range(web.ends), repeat=2):
                found = ring(web, e, f)
                if found is None or len(found) < 2:
                    continue
                others = [found[:k] + found[k + 1:] for k in range(len(found))]
                others += [found[::-1], found[1:] + found[:1], found + found, found[1:2] + found[:1] + found[2:]]
                for other in others:
                    pairs = [(pupil.rights, question) for pupil, question in other]
                    self.assertIs(ring_holds(web, other), holds_by_words(web, pairs))
                    checked += 1
        self.assertGreater(checked, 100)

    def test_random_pairs(self):
        chance = random.Random(10)
        found = []
        for web in small_grids(10, 100, layers=2, ends=2):
            every = list(subsets(range(3)))
            for _ in range(20):
                pairs = [(chance.choice(every), chance.randrange(-1, 4)) for _ in range(chance.randrange(1, 4))]
                given = tuple((Pupil(rights), question) for rights, question in pairs)
                found.append(holds_by_words(web, pairs))
                self.assertIs(ring_holds(web, given), found[-1])
        self.assertGreater(found.count(True), 50)
        self.assertGreater(found.count(False), 50)


class Large(unittest.TestCase):
    def test_many_nodes(self):
        web = Web(layered(48, 4, 8), 8)
        with at_once(10):
            scale = fullest_scale(web)
            self.assertTrue(is_fair(web, scale))
            self.assertEqual(len(set(scale)), len(rests(web)))
            for e, f in itertools.product(range(8), repeat=2):
                found = ring(web, e, f)
                self.assertTrue(found is None or ring_holds(web, found))
                self.assertEqual(e != f and scale[e] == scale[f] and found is None, False)

    def test_sixty_ends(self):
        web = Web([(k, k + 1 if k < 46 else -60, -1 - k) for k in range(47)], 60)
        with at_once(5):
            self.assertEqual(len(arrows(web)), 46 * 47 // 2 + 47)
            self.assertEqual(rests(web), tuple((e,) for e in range(60)))
            self.assertEqual(fullest_scale(web), tuple(range(60)))
            self.assertEqual(parting_scale(web, 3, 5), (0,) * 5 + (1,) * 42 + (0,) * 12 + (1,))

    def test_rings_of_many_pairs_are_read_at_once(self):
        web = Web(layered(48, 4, 8), 8)
        long = tuple((Pupil([k % 40]), 47) for k in range(2000))
        with at_once(5):
            self.assertIn(ring_holds(web, long), (True, False))

    def test_some_thousand_states(self):
        first, second = shuffled_layers(11, 3, 4, 1).nodes, shuffled_layers(11, 3, 4, 12).nodes
        nodes = [(47, 1, 1 + len(first))]
        for behind, base in ((first, 1), (second, 1 + len(first))):
            nodes += [(node[0], *[place + base if place >= 0 else place for place in node[1:]]) for node in behind]
        web = Web(nodes, 4)
        with at_once(10):
            scale = fullest_scale(web)
            self.assertTrue(is_fair(web, scale))
            for e, f in itertools.combinations(range(4), 2):
                self.assertEqual(ring(web, e, f) is not None, scale[e] == scale[f])

    def test_a_ladder(self):
        web = build(Ladder(levels=3, begin=2, count=4))
        scale = fullest_scale(web)
        self.assertTrue(is_fair(web, scale))
        self.assertEqual(is_fair(web, range(5)), not harm(web, list(range(5))))


if __name__ == "__main__":
    unittest.main()
