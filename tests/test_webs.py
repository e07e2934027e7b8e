import copy
import unittest

from helpers import asked_behind, at_once, layered, least_twice, led_to, random_cases, with_skips
from steppedtests.errors import BadEnds, BadNode, BadStart, NoNode, NoPosition, TwiceAsked
from steppedtests.webs import Web

NODES = ((1, 1, 2), (2, -1, -2), (2, -3, -4, -1))


class Raising(unittest.TestCase):
    def assert_raises(self, error, value, nodes, ends, **words):
        """The constructor raises the error with this value in its one attribute."""
        with self.subTest((nodes, ends, words)):
            with self.assertRaises(error) as caught:
                Web(nodes, ends, **words)
            self.assertEqual(list(vars(caught.exception).values()), [value])


class Ends(Raising):
    def test_as_many_as_allowed(self):
        for ends in (1, 2, 59, 60):
            self.assertEqual(Web([(0, -1, -ends)], ends).ends, ends)

    def test_too_few_and_too_many(self):
        for ends in (0, -1, 61, 10 ** 6):
            self.assert_raises(BadEnds, ends, [(0, -1, -1)], ends)
            self.assert_raises(BadEnds, ends, [], ends)


class Nodes(Raising):
    def test_lengths(self):
        for node in ((), (0,), (0, -1), (0, -1, -1, -1, -1), (0, -1, -1, -1, -1, -1)):
            self.assert_raises(BadNode, 0, [node], 1)
            self.assert_raises(BadNode, 1, [(0, 1, -1), node], 1)
        for node in ((0, -1, -1), (0, -1, -1, -1)):
            self.assertEqual(Web([node], 1).nodes, (node,))

    def test_questions(self):
        for question in (0, 1, 46, 47):
            self.assertEqual(Web([(question, -1, -1)], 1)[0], (question, -1, -1))
        for question in (-1, 48, -48, 100):
            self.assert_raises(BadNode, 0, [(question, -1, -1)], 1)

    def test_targets_in_each_place(self):
        """Node 1 of three nodes with two ends."""
        for place in (1, 2, 3):
            for target in (-2, -1, 2):
                node = [5, -1, -1, -1]
                node[place] = target
                self.assertEqual(Web([(0, 1, 2), node, (3, -1, -1)], 2)[1], tuple(node))
            for target in (0, 1, 3, 4, -3, -4, 50, -50):
                node = [5, -1, -1, -1]
                node[place] = target
                self.assert_raises(BadNode, 1, [(0, 1, 2), node, (3, -1, -1)], 2)

    def test_targets_without_a_skip(self):
        for node in ((5, 1, -1), (5, -1, 0), (5, 3, -1), (5, -1, -3)):
            self.assert_raises(BadNode, 1, [(0, 1, 2), node, (3, -1, -1)], 2)

    def test_the_last_end_with_most_ends(self):
        self.assertEqual(Web([(0, -60, -1)], 60).reach(0), (0, 59))
        self.assert_raises(BadNode, 0, [(0, -61, -1)], 60)

    def test_the_least_bad_node_is_told(self):
        nodes = [(0, 1, -1), (1, 2, -1), (2, 3, -1), (3, -1, -1)]
        for least in range(4):
            wrong = nodes[:least] + [(48, -1, -1), (0, -1), (1, 0, 0), (2, -9, -1)][least:]
            self.assert_raises(BadNode, least, wrong, 1)


class Start(Raising):
    def test_without_a_start(self):
        self.assertEqual(Web(NODES, 4).start, 0)
        self.assertEqual(Web([], 3).start, -1)
        self.assertEqual(Web(NODES, 4, start=None).start, 0)

    def test_each_position_can_be_the_start(self):
        for start in range(-4, 3):
            self.assertEqual(Web(NODES, 4, start=start).start, start)
        for start in (-3, -2, -1):
            self.assertEqual(Web([], 3, start=start).start, start)

    def test_other_starts(self):
        for start in (3, 4, -5, -6, 1000, -1000):
            self.assert_raises(BadStart, start, NODES, 4, start=start)
        for start in (0, 1, -4):
            self.assert_raises(BadStart, start, [], 3, start=start)

    def test_the_start_is_passed_by_keyword(self):
        with self.assertRaises(TypeError):
            Web(NODES, 4, 0)


class Twice(Raising):
    def test_each_kind_of_target_is_followed(self):
        for place in (1, 2, 3):
            node = [7, -1, -1, -1]
            node[place] = 1
            self.assert_raises(TwiceAsked, 0, [node, (7, -1, -1)], 1)

    def test_behind_a_skip_of_a_later_node(self):
        self.assert_raises(TwiceAsked, 0, [(7, 1, -1), (8, -1, -1, 2), (7, -1, -1)], 1)
        self.assert_raises(TwiceAsked, 1, [(6, 1, -1), (7, -1, -1, 2), (8, 3, 3), (7, -1, -1)], 1)

    def test_far_behind(self):
        nodes = [(k, k + 1, -1) for k in range(40)]
        self.assertEqual(len(Web(nodes + [(40, -1, -1)], 1)), 41)
        for k in (0, 7, 39):
            self.assert_raises(TwiceAsked, k, nodes + [(k, -1, -1)], 1)

    def test_the_least_node_is_told(self):
        self.assert_raises(TwiceAsked, 0, [(1, 1, -1), (2, 2, -1), (1, 3, -1), (2, -1, -1)], 1)
        self.assert_raises(TwiceAsked, 1, [(1, 1, 2), (2, 3, -1), (4, 4, -1), (2, -1, -1), (4, -1, -1)], 1)
        self.assert_raises(TwiceAsked, 0, [(1, 2, -1), (1, 2, -1), (1, -1, -1)], 1)

    def test_beside_is_not_behind(self):
        self.assertEqual(len(Web([(1, 1, 2, 3), (2, 4, -1), (2, -1, 4), (2, -1, -1), (3, -1, -1)], 1)), 5)

    def test_nodes_that_are_not_reached_count(self):
        nodes = [(1, -1, -1), (2, 2, -1), (2, -1, -1)]
        for start in (0, 1, 2, -1):
            self.assert_raises(TwiceAsked, 1, nodes, 1, start=start)

    def test_questions_at_the_borders(self):
        for question in (0, 47):
            self.assert_raises(TwiceAsked, 0, [(question, 1, -1), (question, -1, -1)], 1)
        self.assertEqual(len(Web([(0, 1, -1), (47, -1, -1)], 1)), 2)


class Order(Raising):
    def test_errors_come_in_their_order(self):
        good, bad = [(0, -1, -1)], [(0, -1, -1), (48, -1, -1)]
        twice = [(0, 1, -1), (0, -1, -1)]
        self.assert_raises(BadEnds, 0, bad, 0, start=9)
        self.assert_raises(BadEnds, 61, twice, 61)
        self.assert_raises(BadNode, 1, bad, 1, start=9)
        self.assert_raises(BadNode, 2, twice + [(1, 0, 0)], 1)
        self.assert_raises(BadStart, 9, good, 1, start=9)
        self.assert_raises(BadStart, 2, twice, 1, start=2)
        self.assert_raises(TwiceAsked, 0, twice, 1, start=1)


class Values(unittest.TestCase):
    def test_attributes(self):
        web = Web(NODES, 4, start=2)
        self.assertEqual((web.nodes, web.ends, web.start), (NODES, 4, 2))

    def test_length(self):
        self.assertEqual([len(Web([], 1)), len(Web(NODES, 4)), len(Web(NODES[1:], 4))], [0, 3, 2])

    def test_items(self):
        web = Web([list(node) for node in NODES], 4)
        for k in range(3):
            self.assertEqual(web[k], NODES[k])
            self.assertIsInstance(web[k], tuple)

    def test_no_such_item(self):
        for web, wrong in ((Web(NODES, 4), (-1, -2, -3, -4, 3, 4, 99)), (Web([], 2), (0, -1, 1))):
            for k in wrong:
                with self.subTest(k), self.assertRaises(NoNode) as caught:
                    web[k]
                self.assertEqual(caught.exception.index, k)

    def test_positions(self):
        web = Web(NODES, 4)
        for position in range(-9, 9):
            self.assertIs(position in web, -4 <= position <= 2)
        for position in (10 ** 9, -10 ** 9):
            self.assertIs(position in web, False)
        empty = Web([], 1)
        self.assertEqual([position in empty for position in (-2, -1, 0)], [False, True, False])

    def test_equal(self):
        web = Web(NODES, 4)
        self.assertTrue(web == Web([list(node) for node in NODES], 4, start=0))
        for other in (Web(NODES[:2] + ((2, -3, -4),), 4), Web(NODES[:2] + ((3, -3, -4, -1),), 4),
                      Web(NODES, 5), Web(NODES, 4, start=1), Web(NODES, 4, start=-1)):
            self.assertFalse(web == other)
            self.assertTrue(web != other)
        self.assertTrue(Web([], 2) == Web((), 2, start=-1))
        self.assertFalse(Web([], 2) == Web([], 2, start=-2))
        self.assertFalse(web == NODES)


class Copies(unittest.TestCase):
    def test_lists_may_be_changed_later(self):
        nodes = [[1, 1, 2], [2, -1, -2], [2, -3, -4, -1]]
        before = copy.deepcopy(nodes)
        web = Web(nodes, 4)
        web.asked(0), web.reach(0), web.reached()
        self.assertEqual(nodes, before)
        nodes[0][1] = -1
        nodes[2].append(-1)
        nodes.append([9, -1, -1])
        self.assertEqual(web.nodes, NODES)
        self.assertIsInstance(web.nodes, tuple)
        self.assertEqual([node.__class__ for node in web.nodes], [tuple] * 3)
        self.assertEqual(web.reach(0), (0, 1, 2, 3))

    def test_arguments_stay_where_an_error_is_raised(self):
        nodes = [[1, 1, -1], [1, -1, -1]]
        with self.assertRaises(TwiceAsked):
            Web(nodes, 1)
        self.assertEqual(nodes, [[1, 1, -1], [1, -1, -1]])


class LedTo(unittest.TestCase):
    def setUp(self):
        """Node 3 and end 4 are behind skips only; node 5 is not behind node 0."""
        self.nodes = [(30, 1, 2, 3), (20, -1, 4), (20, 4, -2, -5), (10, -3, -3), (5, -4, -4), (7, 6, -1), (3, -2, -2)]
        self.web = Web(self.nodes, 6)

    def test_asked(self):
        wanted = {0: (5, 20, 30), 1: (5, 20), 2: (5, 20), 3: (10,), 4: (5,), 5: (3, 7), 6: (3,), -1: (), -6: ()}
        for position, questions in wanted.items():
            self.assertEqual(self.web.asked(position), questions)

    def test_reach(self):
        wanted = {0: (0, 1, 3), 1: (0, 3), 2: (1, 3), 3: (2,), 4: (3,), 5: (0, 1), 6: (1,), -1: (0,), -6: (5,)}
        for position, ends in wanted.items():
            self.assertEqual(self.web.reach(position), ends)

    def test_reached(self):
        wanted = {0: (0, 1, 2, 4), 1: (1, 4), 2: (2, 4), 3: (3,), 5: (5, 6), 6: (6,), -1: (), -6: ()}
        for start, nodes in wanted.items():
            self.assertEqual(Web(self.nodes, 6, start=start).reached(), nodes)
        self.assertEqual(Web([], 2).reached(), ())

    def test_no_position(self):
        for position in (7, 8, -7, -8, 1000, -1000):
            for method in (self.web.asked, self.web.reach):
                with self.subTest(position), self.assertRaises(NoPosition) as caught:
                    method(position)
                self.assertEqual(caught.exception.place, position)
        with self.assertRaises(NoPosition):
            Web([], 1).asked(0)

    def test_the_start_does_not_count_for_asked_and_reach(self):
        web = Web(self.nodes, 6, start=-1)
        self.assertEqual((web.asked(0), web.reach(0)), ((5, 20, 30), (0, 1, 3)))

    def test_all_questions_and_all_ends(self):
        nodes = [(47 - k, k + 1 if k < 47 else -60, -1 - k) for k in range(48)]
        web = Web(nodes, 60)
        self.assertEqual(web.asked(0), tuple(range(48)))
        self.assertEqual(web.reach(0), tuple(range(48)) + (59,))
        self.assertEqual(web.reached(), tuple(range(48)))


class Compared(unittest.TestCase):
    """Small webs, compared with answers that follow each way."""

    def test_twice_asked(self):
        found = 0
        for nodes, ends, start in random_cases(1, 1500):
            least = least_twice(nodes)
            if least is None:
                self.assertEqual(Web(nodes, ends, start=start).nodes, tuple(nodes))
                continue
            found += 1
            with self.assertRaises(TwiceAsked) as caught:
                Web(nodes, ends, start=start)
            self.assertEqual(caught.exception.index, least)
        self.assertTrue(300 < found < 1200)

    def test_led_to(self):
        for nodes, ends, start in random_cases(2, 800):
            if least_twice(nodes) is not None:
                continue
            web = Web(nodes, ends, start=start)
            for position in range(-ends, len(nodes)):
                led = led_to(nodes, position)
                self.assertEqual(web.asked(position), tuple(sorted({nodes[k][0] for k in led if k >= 0})))
                self.assertEqual(web.reach(position), tuple(sorted(-1 - k for k in led if k < 0)))
            self.assertEqual(web.reached(), tuple(sorted(k for k in led_to(nodes, start) if k >= 0)))


class Large(unittest.TestCase):
    """There are far too many ways to follow each of them."""

    def test_many_ways(self):
        for layers, width in ((48, 4), (40, 5), (20, 10), (2, 100)):
            plain = layered(layers, width, 60)
            for nodes in (plain, with_skips(plain)):
                with self.subTest((layers, width)), at_once():
                    web = Web(nodes, 60)
                    reached = [k for k in range(layers * width) if k % width <= k // width]
                    self.assertEqual(web.asked(0), tuple(range(layers)))
                    self.assertEqual(web.reached(), tuple(reached))
                    self.assertEqual(web.reach(0), tuple(range(min(width + 1, layers + 1))))

    def test_a_question_that_is_asked_again_far_behind(self):
        for layer in (0, 3, 46):
            nodes = layered(48, 4, 60)
            for k in range(47 * 4, 48 * 4):
                nodes[k] = (layer, *nodes[k][1:])
            for twice in (nodes, with_skips(nodes)):
                with self.subTest(layer), at_once(), self.assertRaises(TwiceAsked) as caught:
                    Web(twice, 60)
                self.assertEqual(caught.exception.index, layer * 4)

    def test_asked_again_at_one_last_node_only(self):
        nodes = layered(48, 4, 60)
        nodes[190] = (45, *nodes[190][1:])
        with at_once(), self.assertRaises(TwiceAsked) as caught:
            Web(nodes, 60)
        self.assertEqual(caught.exception.index, 180)


if __name__ == "__main__":
    unittest.main()
