import copy
import itertools
import random
import unittest

from helpers import (all_questions, at_once, end_by_words, random_state, shuffled_layers, small_joints, small_webs,
                     steps_by_words, subsets, turned)
from steppedtests.errors import BadCount, BadPositions, BadRelation, NoFinal
from steppedtests.harms import splits
from steppedtests.joint import Joint
from steppedtests.webs import Web

WEB = Web([(1, 1, 2), (2, -1, -2), (2, -3, -4)], 4)
CHAIN = Web([(5, 1, 1), (6, 2, 2), (7, -1, -2)], 2)


def states_by_words(joint):
    """All states, found step by step."""
    found = {(tuple(start), ()) for start in joint.starts}
    waiting = list(found)
    while waiting:
        for _, state in steps_by_words(joint.webs, joint.relation, waiting.pop()):
            if state not in found:
                found.add(state)
                waiting.append(state)
    return found


def finals_by_pupils(joint):
    """The ends of all pupils, or of all pairs of pupils A <= B, from all starts."""
    questions = all_questions(*joint.webs)
    every = list(subsets(questions))
    groups = [(rights,) * len(joint.webs) for rights in every]
    if joint.relation == "within":
        groups = [(a, b) for a in every for b in every if set(a) <= set(b)]
    return {tuple(end_by_words(web, rights, place) for web, rights, place in zip(joint.webs, group, start))
            for start in joint.starts for group in groups}


class Constructor(unittest.TestCase):
    def assert_raises(self, error, value, *arguments, **words):
        with self.subTest((arguments[1:], words)), self.assertRaises(error) as caught:
            Joint(*arguments, **words)
        self.assertEqual(list(vars(caught.exception).values()), [value])

    def test_attributes(self):
        for webs, starts in (([WEB], [[0], (1,)]), ((WEB, CHAIN), ((0, 0),)), ([WEB, WEB, CHAIN], [])):
            joint = Joint(webs, starts)
            self.assertEqual(joint.webs, tuple(webs))
            self.assertEqual(joint.starts, tuple(tuple(start) for start in starts))
            self.assertIsInstance(joint.webs, tuple)
            self.assertTrue(all(isinstance(start, tuple) for start in joint.starts))
            self.assertEqual(joint.relation, "same")
        self.assertEqual(Joint((WEB, CHAIN), [(0, 0)], relation="within").relation, "within")

    def test_copies(self):
        webs, starts = [WEB, CHAIN], [[0, 0], [1, 1]]
        before = copy.deepcopy(starts)
        joint = Joint(webs, starts)
        joint.states()
        self.assertEqual((webs, starts), ([WEB, CHAIN], before))
        states = joint.states()
        webs.pop()
        starts[0][0] = -1
        starts.pop()
        self.assertEqual((joint.webs, joint.starts), ((WEB, CHAIN), ((0, 0), (1, 1))))
        self.assertEqual((joint.states(), Joint((WEB, CHAIN), before).states()), (states, states))

    def test_numbers_of_webs(self):
        for count in (1, 2, 3):
            self.assertEqual(len(Joint([WEB] * count, [[0] * count]).webs), count)
        for count in (0, 4, 5, 40):
            self.assert_raises(BadCount, count, [WEB] * count, [(0,) * count])
            self.assert_raises(BadCount, count, [WEB] * count, [(99,)], relation="other")
            self.assert_raises(BadCount, count, [WEB] * count, [], relation="within")

    def test_relations(self):
        for relation in ("other", "", "Same", "within ", "samewithin"):
            for count in (1, 2, 3):
                self.assert_raises(BadRelation, relation, [WEB] * count, [(0,) * count], relation=relation)
                self.assert_raises(BadRelation, relation, [WEB] * count, [(99,)], relation=relation)
        for count in (1, 3):
            self.assert_raises(BadRelation, "within", [WEB] * count, [(0,) * count], relation="within")
            self.assert_raises(BadRelation, "within", [WEB] * count, [()], relation="within")

    def test_starts(self):
        webs = (WEB, CHAIN)
        for good in ((0, 0), (-4, -2), (2, 2)):
            self.assertEqual(Joint(webs, [good]).starts, (good,))
            for bad in ((), (0,), (0, 0, 0), (3, 0), (0, 3), (-5, 0), (0, -3), (10 ** 9, 0), (0, -10 ** 9)):
                for count in range(3):
                    self.assert_raises(BadPositions, count, webs, [good] * count + [bad, good, ()])
                    self.assert_raises(BadPositions, count, webs, [good] * count + [bad], relation="within")

    def test_each_start_fits_its_own_web(self):
        self.assertEqual(Joint((WEB, CHAIN), [(-4, 0)]).finals(), ((3, 0), (3, 1)))
        self.assert_raises(BadPositions, 0, (CHAIN, WEB), [(-4, 0)])

    def test_relation_is_passed_by_keyword(self):
        with self.assertRaises(TypeError):
            Joint((WEB,), ((0,),), "same")


class Turns(unittest.TestCase):
    def test_the_least_node_and_the_first_walker(self):
        joint = Joint((WEB, WEB, WEB), [])
        for positions, walker in (((0, 0, 0), 0), ((2, 1, 1), 1), ((2, 1, 0), 2), ((-1, 2, 2), 1), ((-4, -1, 0), 2),
                                  ((1, 0, 0), 1), ((2, -1, 2), 0), ((-1, -2, -3), None), ((0, -4, 1), 0)):
            self.assertEqual(joint.turn((positions, ())), walker)
        self.assertIsNone(Joint((WEB, WEB), []).turn(((-1, -1), ((2, (1, -1)),))))

    def test_the_walker_among_several_at_equal_nodes(self):
        joint = Joint((WEB, WEB), [(0, 0)])
        self.assertEqual(joint.steps(((0, 0), ())), (
            (0, ((2, 0), ((1, (0, -1)),))),
            (1, ((1, 0), ((1, (1, -1)),))),
        ))
        self.assertEqual(joint.steps(((2, 0), ((1, (0, -1)),))), ((0, ((2, 2), ())),))
        self.assertEqual(joint.steps(((1, 0), ((1, (1, -1)),))), ((1, ((1, 1), ())),))


class Steps(unittest.TestCase):
    def test_final_states_have_none(self):
        self.assertEqual(Joint((WEB, WEB), []).steps(((-1, -4), ())), ())
        self.assertEqual(Joint((WEB,), []).steps(((-2,), ((2, (1,)),))), ())

    def test_same_forces(self):
        joint = Joint((WEB, WEB, WEB), [])
        for answers, forced in (((-1, 1, -1), (1,)), ((-1, 0, 1), (0,)), ((-1, -1, 0), (0,)), ((-1, 1, 0), (1,)),
                                ((-1, -1, -1), (0, 1)), ((1, -1, -1), (0, 1)), ((0, 1, 1), (0, 1))):
            steps = joint.steps(((0, 1, 2), ((1, answers),)))
            self.assertEqual(tuple(answer for answer, _ in steps), forced)

    def test_within_forces(self):
        joint = Joint((WEB, WEB), [], relation="within")
        for positions, answers, forced in (
                ((0, 0), (-1, 0), (0,)), ((0, 0), (-1, 1), (0, 1)), ((0, 0), (1, 0), (0, 1)),
                ((1, 0), (1, -1), (1,)), ((1, 0), (0, -1), (0, 1)), ((1, 0), (-1, -1), (0, 1)),
                ((1, 0), (1, 0), (0, 1)), ((0, 1), (-1, -1), (0, 1))):
            steps = joint.steps((positions, ((1, answers),)))
            self.assertEqual(tuple(answer for answer, _ in steps), forced)

    def test_within_keeps_what_forces_only(self):
        joint = Joint((WEB, WEB), [(0, 0)], relation="within")
        self.assertEqual(joint.steps(((0, 0), ())), ((0, ((2, 0), ())), (1, ((1, 0), ((1, (1, -1)),)))))

    def test_entries_are_kept_ascending(self):
        first = Web([(9, 1, 1), (4, 2, 2), (30, -1, -1)], 1)
        second = Web([(40, 1, 1), (30, 2, 2), (9, 3, 3), (4, -1, -1)], 1)
        joint = Joint((first, second), [(0, 0)])
        memories = {memory for _, memory in joint.states()}
        self.assertIn(((4, (1, -1)), (9, (0, -1))), memories)
        self.assertTrue(all(list(memory) == sorted(memory) for memory in memories))

    def test_other_entries_are_dropped_too(self):
        """An entry for a question that nobody can be asked any more goes with any step."""
        joint = Joint((WEB, WEB), [])
        memory = ((1, (-1, -1)), (3, (1, -1)), (47, (0, 1)))
        self.assertEqual(joint.steps(((1, 1), memory))[0], (0, ((-2, 1), ((2, (0, -1)),))))

    def test_an_answer_in_memory_is_exchanged(self):
        joint = Joint((WEB, WEB), [])
        self.assertEqual(joint.steps(((1, 2), ((2, (1, -1)),))), (
            (0, ((-2, 2), ((2, (0, -1)),))),
            (1, ((-1, 2), ((2, (1, -1)),))),
        ))

    def test_the_arguments_stay(self):
        joint = Joint((WEB, WEB), [(0, 0)])
        state = ((2, 0), ((1, (0, -1)),))
        self.assertEqual(joint.steps(state), joint.steps(copy.deepcopy(state)))
        self.assertEqual(state, ((2, 0), ((1, (0, -1)),)))

    def test_against_the_words_of_the_document(self):
        chance = random.Random(5)
        for walkers, relation in ((1, "same"), (2, "same"), (3, "same"), (2, "within")):
            for joint in small_joints(walkers, 60, walkers, relation):
                for _ in range(60):
                    state = random_state(chance, joint)
                    with self.subTest((state, relation)):
                        self.assertEqual(joint.steps(state), steps_by_words(joint.webs, relation, state))


class States(unittest.TestCase):
    def test_no_starts(self):
        for count in (1, 2, 3):
            joint = Joint([WEB] * count, [])
            self.assertEqual((joint.states(), joint.finals()), ((), ()))
            self.assertRaises(NoFinal, joint.trail, (0,) * count)

    def test_starts_at_ends(self):
        joint = Joint((WEB, CHAIN), [(-4, -1), (-1, -2), (-4, -1)])
        self.assertEqual(joint.states(), (((-4, -1), ()), ((-1, -2), ())))
        self.assertEqual(joint.finals(), ((0, 1), (3, 0)))

    def test_webs_without_nodes(self):
        empty = Web([], 3, start=-3)
        self.assertEqual(Joint((empty, empty), [(-3, -1)], relation="within").finals(), ((2, 0),))
        self.assertEqual(Joint((empty, CHAIN), [(-3, 0)]).finals(), ((2, 0), (2, 1)))

    def test_one_walker(self):
        joint = Joint((WEB,), [(0,)])
        self.assertEqual(joint.states(), tuple(((place,), ()) for place in range(-4, 3)))
        self.assertEqual(joint.finals(), ((0,), (1,), (2,), (3,)))

    def test_the_example_of_the_document(self):
        self.assertEqual(Joint((WEB, WEB), splits(WEB)).finals(), ((1, 0), (2, 0), (3, 1), (3, 2)))

    def test_states_against_the_words_of_the_document(self):
        for walkers, relation in ((1, "same"), (2, "same"), (3, "same"), (2, "within")):
            for joint in small_joints(10 + walkers, 60, walkers, relation):
                found = states_by_words(joint)
                self.assertEqual(joint.states(), tuple(sorted(found)))
                finals = {tuple(-1 - place for place in state[0]) for state in found if max(state[0]) < 0}
                self.assertEqual(joint.finals(), tuple(sorted(finals)))
                self.assertTrue(all(memory == () for place, memory in found if max(place) < 0))

    def test_finals_are_those_of_pupils(self):
        for walkers, relation in ((1, "same"), (2, "same"), (3, "same"), (2, "within")):
            for joint in small_joints(20 + walkers, 80, walkers, relation):
                self.assertEqual(joint.finals(), tuple(sorted(finals_by_pupils(joint))))

    def test_questions_that_one_walker_alone_is_asked(self):
        for k, web in enumerate(small_webs(31, 60, questions=4)):
            other = turned(web, k)
            shifted = Web([((node[0] + 2) % 48, *node[1:]) for node in web.nodes], web.ends, start=web.start)
            for second in (other, shifted):
                for relation in ("same", "within"):
                    joint = Joint((web, second), [(web.start, second.start)], relation=relation)
                    if len(all_questions(web, second)) <= 6:
                        self.assertEqual(joint.finals(), tuple(sorted(finals_by_pupils(joint))))


class Trails(unittest.TestCase):
    def follow(self, joint, ends):
        """Go along the trail by the words of point 15."""
        trail = joint.trail(ends)
        self.assertIsInstance(trail, tuple)
        number, steps = trail
        self.assertIsInstance(steps, tuple)
        state = (joint.starts[number], ())
        for walker, question, answer in steps:
            node = min(place for place in state[0] if place >= 0)
            self.assertEqual(walker, state[0].index(node))
            self.assertEqual(question, joint.webs[walker].nodes[node][0])
            state = dict(steps_by_words(joint.webs, joint.relation, state))[answer]
        self.assertEqual(tuple(-1 - place for place in state[0]), tuple(ends))

    def test_each_final(self):
        for walkers, relation in ((1, "same"), (2, "same"), (3, "same"), (2, "within")):
            for joint in small_joints(40 + walkers, 60, walkers, relation):
                for ends in joint.finals():
                    self.follow(joint, ends)

    def test_a_start_that_is_final(self):
        joint = Joint((WEB, CHAIN), [(0, 0), (-4, -1)])
        self.assertEqual(Joint((WEB, CHAIN), [(-1, -1), (-4, -1)]).trail((3, 0)), (1, ()))
        self.follow(joint, (3, 0))

    def test_ends_as_a_list(self):
        joint = Joint((WEB, WEB), splits(WEB))
        ends = [3, 1]
        self.follow(joint, ends)
        self.assertEqual(ends, [3, 1])

    def test_ends_that_are_no_final(self):
        joint = Joint((WEB, WEB), splits(WEB))
        for ends in itertools.product(range(-5, 6), repeat=2):
            if ends in joint.finals():
                continue
            for given in (ends, list(ends)):
                with self.subTest(given), self.assertRaises(NoFinal) as caught:
                    joint.trail(given)
                self.assertEqual(caught.exception.ends, ends)
                self.assertIsInstance(caught.exception.ends, tuple)

    def test_other_lengths_are_no_finals(self):
        joint = Joint((WEB, WEB), splits(WEB))
        for ends in ((), (1,), (1, 0, 0), (10 ** 9, 0)):
            with self.assertRaises(NoFinal) as caught:
                joint.trail(ends)
            self.assertEqual(caught.exception.ends, ends)

    def test_a_start_at_a_node_is_no_final(self):
        """The end -1 would be the position 0."""
        for place in range(3):
            self.assertRaises(NoFinal, Joint((WEB,), [(place,)]).trail, (-1 - place,))


class Large(unittest.TestCase):
    def test_some_thousand_states(self):
        first, second = shuffled_layers(12, 3, 4, 1), shuffled_layers(12, 3, 4, 12)
        for relation, least in (("same", 3000), ("within", 6000)):
            joint = Joint((first, second), [(0, 0)], relation=relation)
            with self.subTest(relation), at_once(5):
                self.assertTrue(least < len(joint.states()) < 12000)
                for ends in joint.finals():
                    self.assertEqual(joint.trail(ends)[0], 0)

    def test_three_walkers(self):
        webs = [shuffled_layers(9, 3, 4, seed) for seed in (4, 5, 6)]
        joint = Joint(webs, [(0, 0, 0)])
        with at_once(5):
            self.assertTrue(1000 < len(joint.states()) < 12000)
        pupils = subsets(range(9))
        self.assertEqual(joint.finals(), tuple(sorted({tuple(end_by_words(web, rights) for web in webs)
                                                       for rights in pupils})))


if __name__ == "__main__":
    unittest.main()
