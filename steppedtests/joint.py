"""Joint walks: pupils who walk side by side, each in a web of its own."""

from steppedtests.errors import BadCount, BadPositions, BadRelation, NoFinal
from steppedtests.walks import target_of

MOST_WALKERS = 3


def have_place(webs, positions):
    """True if there is one position of its web for each walker."""
    if len(positions) != len(webs):
        return False
    return all([place in web for place, web in zip(positions, webs)])


def ends_of(state):
    """The ends of a final state."""
    return tuple([-1 - place for place in state[0]])


class Joint:
    """The joint walk of one to three walkers from these starts."""

    def __init__(self, webs, starts, *, relation="same"):
        self.webs = tuple(webs)
        self.starts = tuple([tuple(start) for start in starts])
        self.relation = relation
        self._check()
        self._askable = [_askable_from(web) for web in self.webs]
        self._ways = None

    def _check(self):
        """Raise the first error that is due for what the joint walk was given."""
        count = len(self.webs)
        if not 1 <= count <= MOST_WALKERS:
            raise BadCount(count)
        if self.relation not in ("same", "within"):
            raise BadRelation(self.relation)
        if self.relation == "within" and count != 2:
            raise BadRelation(self.relation)
        for index, start in enumerate(self.starts):
            if not have_place(self.webs, start):
                raise BadPositions(index)

    def turn(self, state):
        """The walker who moves, or None if the state is final."""
        moving = None
        for walker, place in enumerate(state[0]):
            if place >= 0 and (moving is None or place < state[0][moving]):
                moving = walker
        return moving

    def steps(self, state):
        """The pairs (answer, state) of the steps from this state, ascending by answer."""
        walker = self.turn(state)
        if walker is None:
            return ()
        forced = self._forced(_answers_to(state, self._question(state, walker)), walker)
        answers = (0, 1) if forced is None else (forced,)
        return tuple([(answer, self._state_behind(state, walker, answer)) for answer in answers])

    def _question(self, state, walker):
        """The question at the node of this walker."""
        return self.webs[walker][state[0][walker]][0]

    def _forced(self, answers, walker):
        """The answer of the walker that an entry with these answers forces, or None."""
        if answers[walker] != -1:
            return None
        if self.relation == "same":
            told = [answer for answer in answers if answer != -1]
            return told[0] if told else None
        if walker == 1 and answers[0] == 1:
            return 1
        if walker == 0 and answers[1] == 0:
            return 0
        return None

    def _state_behind(self, state, walker, answer):
        """The state to which this answer of the walker who moves leads."""
        positions = state[0]
        node = self.webs[walker][positions[walker]]
        moved = _exchanged(positions, walker, target_of(node, answer))
        memory = _remembered(state, node[0], walker, answer)
        return (moved, tuple([entry for entry in memory if self._is_needed(entry, moved)]))

    def _is_needed(self, entry, positions):
        """True if the entry forces a walker who can still be asked its question."""
        question, answers = entry
        for walker, place in enumerate(positions):
            if self._askable[walker][place] >> question & 1 and self._forced(answers, walker) is not None:
                return True
        return False

    def states(self):
        """All states that steps lead to from the starts, ascending."""
        return tuple(sorted(set(list(self._explored()))))

    def finals(self):
        """The ends of all final states, ascending."""
        found = [ends_of(state) for state in self._explored() if self.turn(state) is None]
        return tuple(sorted(set(found)))

    def _explored(self):
        """Each state with the pair (state before it, answer); (None, number) for a start's."""
        # The object never changes, so its states are looked for only once.
        if self._ways is None:
            ways = {}
            for number, start in enumerate(self.starts):
                ways.setdefault((start, ()), (None, number))
            waiting = list(ways)
            while waiting:
                state = waiting.pop()
                for answer, found in self.steps(state):
                    if found not in ways:
                        ways[found] = (state, answer)
                        waiting.append(found)
            self._ways = ways
        return self._ways

    def trail(self, ends):
        """The number of a start, and the steps from there to a final state with these ends."""
        ways = self._explored()
        # At a final state nobody can be asked, so nothing is left in its memory.
        last = (tuple([-1 - end for end in ends]), ())
        if last not in ways or self.turn(last) is not None:
            raise NoFinal(tuple(ends))
        steps = []
        state, told = ways[last]
        while state is not None:
            walker = self.turn(state)
            steps.append((walker, self._question(state, walker), told))
            state, told = ways[state]
        return (told, tuple(steps[::-1]))


def _askable_from(web):
    """For each position a number whose bits are the questions that can be asked from it."""
    # An end is a negative index, and so finds one of the zeros behind the nodes.
    masks = [0] * (len(web) + web.ends)
    for k in reversed(range(len(web))):
        question, right, wrong = web[k][:3]
        masks[k] = masks[right] | masks[wrong] | 1 << question
    return masks


def _exchanged(values, at, value):
    """The tuple with another value at this place."""
    return values[:at] + (value,) + values[at + 1:]


def _answers_to(state, question):
    """The answers of the walkers to the question, as far as the memory knows them."""
    for asked, answers in state[1]:
        if asked == question:
            return answers
    return (-1,) * len(state[0])


def _remembered(state, question, walker, answer):
    """The entries of the memory with the answer of this walker."""
    answers = _exchanged(_answers_to(state, question), walker, answer)
    before = [entry for entry in state[1] if entry[0] < question]
    behind = [entry for entry in state[1] if entry[0] > question]
    return [*before, (question, answers), *behind]
