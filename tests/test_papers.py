import copy
import itertools
import random
import unittest

from helpers import at_once, random_state, shuffled_layers, small_joints, steps_by_words
from steppedtests.harms import splits
from steppedtests.joint import Joint
from steppedtests.papers import accepts, covers
from steppedtests.webs import Web

WEB = Web([(1, 1, 2), (2, -1, -2), (2, -3, -4)], 4)
JOINT = Joint((WEB, WEB), splits(WEB))
KINDS = ((1, "same"), (2, "same"), (3, "same"), (2, "within"))
STRANGE = ([], {}, set(), None, "", "word", b"", b"word", 0, 1, -1, 10 ** 30, 1.5, True, False, (), ((),), (0,),
           (0, 0, 0), (None, None), ("a", "b"), (True, 0), (0, False), (0.0, 0), ([], []), ((), ()), object(), int, len)


def covers_by_words(state, other):
    return state[0] == other[0] and set(state[1]) <= set(other[1])


def accepts_by_words(joint, paper, allowed):
    """Point 19, for a value that has the shape of a tuple of states."""
    due = [(start, ()) for start in joint.starts]
    for state in paper:
        due += [found for _, found in steps_by_words(joint.webs, joint.relation, state)]
    closed = all(any(covers_by_words(state, other) for state in paper) for other in due)
    finals = {tuple(-1 - place for place in positions) for positions, _ in paper if max(positions) < 0}
    return closed and finals <= set(allowed)


def changed_papers(chance, joint):
    """The tuple of all states with some states left out, put in or exchanged."""
    paper = list(joint.states())
    for _ in range(12):
        k = chance.randrange(len(paper))
        kind = chance.randrange(5)
        positions, memory = paper[k]
        if kind == 0 and len(paper) > 1:
            del paper[k]
        elif kind == 1 and memory:
            left_out = chance.choice(memory)
            paper[k] = (positions, tuple(entry for entry in memory if entry != left_out))
        elif kind == 2:
            paper[k] = (positions, random_state(chance, joint)[1])
        elif kind == 3:
            paper.insert(k, chance.choice([random_state(chance, joint), paper[k]]))
        else:
            chance.shuffle(paper)
        yield tuple(paper)


class Covers(unittest.TestCase):
    def test_positions_and_entries(self):
        one, two, other = (1, (0, -1)), (5, (1, -1)), (5, (-1, 1))
        memories = [(), (one,), (two,), (other,), (one, two), (one, other)]
        for first, second in itertools.product(memories, memories):
            for a, b in itertools.product([(0, 1), (1, 0), (-1, -1)], repeat=2):
                covered = a == b and set(first) <= set(second)
                self.assertIs(covers((a, first), (b, second)), covered)

    def test_random_states(self):
        chance = random.Random(3)
        for joint in small_joints(3, 30, 2):
            states = [random_state(chance, joint) for _ in range(20)]
            states += [(positions, memory[1:]) for positions, memory in states]
            for first, second in itertools.product(states, states):
                self.assertIs(covers(first, second), covers_by_words(first, second))


class AllStates(unittest.TestCase):
    def test_finals_allowed_or_not(self):
        for walkers, relation in KINDS:
            for joint in small_joints(50 + walkers, 50, walkers, relation):
                states, finals = joint.states(), joint.finals()
                self.assertIs(accepts(joint, states, finals), True)
                self.assertIs(accepts(joint, states, finals + ((9, 9, 9), ())), True)
                for k in range(len(finals)):
                    self.assertIs(accepts(joint, states, finals[:k] + finals[k + 1:]), False)
                self.assertIs(accepts(joint, states[::-1] + states[:3], finals), True)

    def test_allowed_as_lists(self):
        allowed = [list(ends) for ends in JOINT.finals()]
        before = copy.deepcopy(allowed)
        self.assertIs(accepts(JOINT, JOINT.states(), allowed), True)
        self.assertIs(accepts(JOINT, JOINT.states(), allowed[1:]), False)
        self.assertEqual(allowed, before)

    def test_no_starts(self):
        joint = Joint((WEB, WEB), [])
        self.assertIs(accepts(joint, (), ()), True)
        self.assertIs(accepts(joint, JOINT.states(), JOINT.finals()), True)
        self.assertIs(accepts(joint, JOINT.states(), ()), False)
        self.assertIs(accepts(joint, [], ()), False)

    def test_the_empty_paper(self):
        self.assertIs(accepts(JOINT, (), JOINT.finals()), False)

    def test_it_need_not_be_a_paper_of_these_starts(self):
        """A closed set of states with more than the starts need is accepted, too."""
        few = Joint((WEB, WEB), splits(WEB)[1:])
        self.assertIs(accepts(few, JOINT.states(), JOINT.finals()), True)
        self.assertIs(accepts(JOINT, few.states(), JOINT.finals()), False)


class Changed(unittest.TestCase):
    def test_one_state_left_out(self):
        for walkers, relation in KINDS:
            for joint in small_joints(60 + walkers, 40, walkers, relation):
                states, finals = joint.states(), joint.finals()
                for k in range(len(states)):
                    paper = states[:k] + states[k + 1:]
                    self.assertIs(accepts(joint, paper, finals), accepts_by_words(joint, paper, finals))

    def test_a_needed_state_left_out(self):
        states = JOINT.states()
        for k in range(len(states)):
            self.assertIs(accepts(JOINT, states[:k] + states[k + 1:], JOINT.finals()), False)

    def exchanged(self, memory):
        """The paper with this memory in place of ((1, (0, -1)),) of the state at (1, 0)."""
        web = Web([(1, 1, -1), (2, -1, -2)], 2)
        joint = Joint((web, web), [(0, 0)])
        states = joint.states()
        state = ((1, 0), ((1, (1, -1)),))
        self.assertIn(state, states)
        paper = tuple((state[0], memory) if state == other else other for other in states)
        return joint, paper

    def test_a_state_that_covers_in_its_place(self):
        """Without the entry, walker 1 may answer both ways, to states that are not in the paper."""
        joint, paper = self.exchanged(())
        every = tuple(itertools.product(range(2), repeat=2))
        self.assertIs(accepts(joint, paper, every), False)
        more = Joint(joint.webs, [(0, 0), (1, 0), (1, 1), (1, -1)]).states()
        closed = tuple(dict.fromkeys(paper + more))
        self.assertIs(accepts(joint, closed, every), True)
        self.assertIs(accepts(joint, closed, joint.finals()), False)
        without = tuple(state for state in closed if state != ((1, 0), ((1, (1, -1)),)))
        self.assertIs(accepts(joint, without, every), True)

    def test_a_state_that_does_not_cover_in_its_place(self):
        for memory in (((1, (1, -1)), (2, (-1, -1))), ((1, (0, -1)),), ((1, (1, 1)),), ((3, (1, -1)),)):
            joint, paper = self.exchanged(memory)
            self.assertIs(accepts(joint, paper, joint.finals()), False)

    def test_against_the_words_of_the_document(self):
        chance = random.Random(8)
        results = []
        for walkers, relation in KINDS:
            for joint in small_joints(70 + walkers, 60, walkers, relation):
                finals = joint.finals()
                for allowed in (finals, finals[1:]):
                    for paper in changed_papers(chance, joint):
                        result = accepts(joint, paper, allowed)
                        self.assertIs(result, accepts_by_words(joint, paper, allowed))
                        results.append(result)
        self.assertGreater(results.count(True), 200)
        self.assertGreater(results.count(False), 200)

    def test_an_accepted_paper_allows_all_finals(self):
        chance = random.Random(9)
        found = 0
        for walkers, relation in KINDS:
            for joint in small_joints(80 + walkers, 60, walkers, relation):
                every = tuple(itertools.product(*[range(web.ends) for web in joint.webs]))
                allowed = tuple(ends for ends in every if chance.randrange(6))
                for paper in changed_papers(chance, joint):
                    if accepts(joint, paper, allowed):
                        found += 1
                        self.assertEqual(set(joint.finals()) - set(allowed), set())
        self.assertGreater(found, 50)


class Shapes(unittest.TestCase):
    """Every value of another shape is refused, and no error is raised."""

    def refused(self, paper, joint=JOINT):
        with self.subTest(repr(paper)[:80]):
            self.assertIs(accepts(joint, paper, JOINT.finals()), False)

    def test_papers(self):
        for value in STRANGE:
            if value != ():
                self.refused(value)
        self.refused(list(JOINT.states()))
        self.refused(dict.fromkeys(JOINT.states()))
        self.refused(iter(JOINT.states()))

    def test_states(self):
        for value in STRANGE:
            self.refused(JOINT.states() + (value,))
            self.refused((value,) + JOINT.states())
        for state in JOINT.states():
            self.refused(JOINT.states() + (list(state),))
            self.refused(JOINT.states() + (state + ((),),))
            self.refused(JOINT.states() + (state[:1],))

    def test_positions(self):
        for value in STRANGE:
            self.refused(JOINT.states() + ((value, ()),))
        for place in STRANGE:
            if place not in (0, 1, -1) or isinstance(place, (bool, float)):
                self.refused(JOINT.states() + (((place, 1), ()),))
                self.refused(JOINT.states() + (((1, place), ()),))
        for positions in ((3, 0), (0, 3), (-5, 0), (0, -5), [0, 0], (0,), (0, 0, 0), (), ("0", 0)):
            self.refused(JOINT.states() + ((positions, ()),))
        for positions in ((0, 2), (-4, -4)):
            self.assertIs(accepts(Joint((WEB, WEB), []), ((positions, ()),), ((3, 3),)), max(positions) < 0)

    def test_positions_of_each_walkers_own_web(self):
        small = Web([(1, -1, -1)], 1)
        joint = Joint((small, WEB), [])
        self.assertIs(accepts(joint, (((-1, -4), ()),), ((0, 3),)), True)
        self.refused((((-2, -1), ()),), joint)
        self.refused((((1, -1), ()),), joint)

    def accepted(self, memory):
        """Whether a final state with this memory is accepted as a state more."""
        return accepts(JOINT, JOINT.states() + (((-2, -1), memory),), JOINT.finals())

    def test_memories(self):
        for good in ((), ((0, (0, 1)),), ((0, (-1, -1)), (47, (1, 1))), ((5, (-1, 1)), (6, (1, 0)), (7, (0, -1)))):
            self.assertIs(self.accepted(good), True)
        for value in STRANGE:
            if value != ():
                self.assertIs(self.accepted(value), False)
        self.assertIs(self.accepted([(0, (0, 1))]), False)

    def test_entries(self):
        for value in STRANGE:
            self.assertIs(self.accepted((value,)), False)
            self.assertIs(self.accepted(((0, (0, 1)), value)), False)
        for entry in ([0, (0, 1)], (0,), (0, (0, 1), 0), (0, [0, 1]), (0, 0, 1), ((0, 1), 0)):
            self.assertIs(self.accepted((entry,)), False)

    def test_questions(self):
        for question in (*STRANGE, -1, 48, 100, "1"):
            if question not in (0, 1) or isinstance(question, (bool, float)):
                self.assertIs(self.accepted(((question, (0, 1)),)), False)
        for questions in ((1, 0), (3, 3), (0, 2, 1), (0, 0, 1), (47, 46), (1, None), (None, 1), ("a", "b"), (1, "b")):
            self.assertIs(self.accepted(tuple((question, (0, 1)) for question in questions)), False)

    def test_answers(self):
        for value in STRANGE:
            self.assertIs(self.accepted(((5, value),)), False)
        for answer in STRANGE:
            if answer not in (0, 1, -1) or isinstance(answer, (bool, float)):
                self.assertIs(self.accepted(((5, (answer, 0)),)), False)
                self.assertIs(self.accepted(((5, (0, answer)),)), False)
        for answers in ((2, 0), (0, 2), (-2, 0), (0, -2), (0,), (0, 0, 0), [0, 0], ("1", 0), (1.0, 0)):
            self.assertIs(self.accepted(((5, answers),)), False)

    def test_deep_values(self):
        deep = ()
        for _ in range(50000):
            deep = (deep,)
        for paper in (deep, (deep,), ((deep, ()),), (((-1, -1), deep),), (((-1, -1), ((1, deep),)),)):
            self.assertIs(accepts(JOINT, JOINT.states() + paper, JOINT.finals()), False)
        while deep:
            deep = deep[0]

    def test_true_and_false_are_no_numbers(self):
        """They are equal to 1 and 0, so each of them must be looked at."""
        for state in JOINT.states():
            positions, memory = state
            wrong = []
            for k, place in enumerate(positions):
                if place in (0, 1):
                    wrong.append((positions[:k] + (bool(place),) + positions[k + 1:], memory))
            for k, (question, answers) in enumerate(memory):
                if question == 1:
                    wrong.append((positions, memory[:k] + ((True, answers),) + memory[k + 1:]))
                told = tuple(bool(answer) if answer != -1 else -1 for answer in answers)
                wrong.append((positions, memory[:k] + ((question, told),) + memory[k + 1:]))
            for other in wrong:
                self.assertEqual(other, state)
                self.refused(tuple(other if state == kept else kept for kept in JOINT.states()))


class Large(unittest.TestCase):
    def test_some_thousand_states(self):
        joint = Joint((shuffled_layers(12, 3, 4, 1), shuffled_layers(12, 3, 4, 12)), [(0, 0)])
        with at_once(5):
            states, finals = joint.states(), joint.finals()
            self.assertGreater(len(states), 3000)
            self.assertIs(accepts(joint, states, finals), True)
            self.assertIs(accepts(joint, states, finals[1:]), False)
            self.assertIs(accepts(joint, states[1:], finals), False)

    def test_many_states_at_the_same_positions(self):
        """Both answers to question 5 lead on alike, so that no state needs an entry for it."""
        nodes = [(k, k + 1, k + 1) for k in range(9)] + [(9, -1, -2)]
        back = [(8 - k, k + 1, k + 1) for k in range(9)] + [(9, -1, -2)]
        joint = Joint((Web(nodes, 2), Web(back, 2)), [(0, 0)])
        with at_once(10):
            states, finals = joint.states(), joint.finals()
            thinned = [(place, tuple(entry for entry in memory if entry[0] != 5)) for place, memory in states]
            paper = tuple(dict.fromkeys(thinned))
            self.assertTrue(1000 < len(paper) < len(states) < 10000)
            self.assertIs(accepts(joint, paper, finals), True)
            self.assertEqual(finals, ((0, 0), (1, 1)))
            needed = tuple((place, tuple(entry for entry in memory if entry[0] != 9)) for place, memory in states)
            self.assertIs(accepts(joint, needed, finals), False)


if __name__ == "__main__":
    unittest.main()
