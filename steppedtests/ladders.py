"""Ladders: stepping rules, and the webs in which pupils walk by them."""

from steppedtests.errors import BadLadder
from steppedtests.webs import Web

QUESTIONS_OF_A_LEVEL = 8


class Ladder:
    """A rule by which right answers lead up to harder levels and wrong ones down."""

    def __init__(self, *, levels=3, begin=2, up=1, down=1, count=4, most_wrongs=0):
        ranges = (
            ("levels", levels, 1, 6), ("begin", begin, 1, levels), ("up", up, 1, 3),
            ("down", down, 1, 3), ("count", count, 1, 6), ("most_wrongs", most_wrongs, 0, count),
        )
        for word, number, low, high in ranges:
            if not low <= number <= high:
                raise BadLadder(word)
        self.levels = levels
        self.begin = begin
        self.up = up
        self.down = down
        self.count = count
        self.most_wrongs = most_wrongs

    def __eq__(self, other):
        return (isinstance(other, Ladder) and self.levels == other.levels
                and self.begin == other.begin and self.up == other.up and self.down == other.down
                and self.count == other.count and self.most_wrongs == other.most_wrongs)

    def _numbers(self):
        """The six numbers by their words."""
        return {"levels": self.levels, "begin": self.begin, "up": self.up,
                "down": self.down, "count": self.count, "most_wrongs": self.most_wrongs}

    def changed(self, **words):
        """A ladder with these numbers in place of its own."""
        numbers = self._numbers()
        strange = sorted(set([word for word in words if word not in numbers]))
        if strange:
            raise BadLadder(strange[0])
        numbers.update(words)
        return Ladder(**numbers)


# The state of a test by a ladder is the tuple of the level, the rights in a row, the
# wrongs in a row, how many questions were asked at each level, and the number of rights.

def _first_state(ladder):
    """The state in which the test begins."""
    return (ladder.begin, 0, 0, (0,) * ladder.levels, 0)


def _has_ended(ladder, state):
    """True if no question is asked any more."""
    count = sum(state[3])
    wrongs = count - state[4]
    if ladder.most_wrongs > 0 and wrongs == ladder.most_wrongs:
        return True
    return count == ladder.count


def _question_of(state):
    """The question that is asked in this state."""
    level, asked = state[0], state[3]
    return (level - 1) * QUESTIONS_OF_A_LEVEL + asked[level - 1]


def _state_behind(ladder, state, answer):
    """The state behind the answer 1 (right) or 0 (wrong)."""
    level, ups, downs, asked, rights = state
    asked = asked[:level - 1] + (asked[level - 1] + 1,) + asked[level:]
    if answer == 1 and ups + 1 == ladder.up:
        return (level + 1 if level < ladder.levels else level, 0, 0, asked, rights + 1)
    if answer == 1:
        return (level, ups + 1, 0, asked, rights + 1)
    if downs + 1 == ladder.down:
        return (level - 1 if level > 1 else level, 0, 0, asked, rights)
    return (level, 0, downs + 1, asked, rights)


def ladder_run(ladder, pupil):
    """The pairs (question, answer) of the pupil's test by the ladder."""
    run = []
    state = _first_state(ladder)
    while not _has_ended(ladder, state):
        question = _question_of(state)
        answer = 1 if question in pupil else 0
        run.append((question, answer))
        state = _state_behind(ladder, state, answer)
    return tuple(run)


def build(ladder):
    """The web in which each pupil walks as by the ladder."""
    # States are numbered as they are found, by the number of questions asked before
    # them, so that each target has a greater number than its node.
    states = [_first_state(ladder)]
    numbers = {states[0]: 0}
    nodes = []
    while len(nodes) < len(states):
        state = states[len(nodes)]
        behind = [_state_behind(ladder, state, answer) for answer in (1, 0)]
        for found in behind:
            if not _has_ended(ladder, found) and found not in numbers:
                numbers[found] = len(states)
                states.append(found)
        targets = [numbers[found] if found in numbers else -1 - found[4] for found in behind]
        nodes.append((_question_of(state), targets[0], targets[1]))
    return Web(nodes, ladder.count + 1)
