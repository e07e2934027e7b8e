"""A sitting: one pupil led through a web, answer by answer."""

from steppedtests.errors import BadDeed, Ended, NoSkip
from steppedtests.walks import check_marks, target_of

# How many parts a deed with this first word has.
PARTS = {"answer": 2, "skip": 1, "undo": 1, "marks": 2}


class Sitting:
    """A pupil's way through a web with marks."""

    def __init__(self, web, marks):
        self.web = web
        self._place = web.start
        self._steps = []
        self.mark_by(marks)

    @property
    def position(self):
        """The position that the pupil has come to."""
        return self._place

    @property
    def question(self):
        """The question that is asked now, or None at an end."""
        return self.web[self._place][0] if self._place >= 0 else None

    @property
    def run(self):
        """The pairs (question, answer) so far; the answer is None if the question was skipped."""
        return tuple([(self.web[node][0], answer) for node, answer in self._steps])

    @property
    def mark(self):
        """The mark at an end, and None elsewhere."""
        return self._marks[-1 - self._place] if self._place < 0 else None

    @property
    def marks(self):
        """The marks of the ends."""
        return self._marks

    @marks.setter
    def marks(self, value):
        self.mark_by(value)

    def mark_by(self, marks):
        """Take these marks."""
        check_marks(self.web, marks)
        self._marks = tuple(marks)

    def answer(self, right):
        """Take the answer to the question: True is right, False is wrong."""
        told = 1 if right else 0
        self._go(target_of(self._node(), told), told)

    def skip(self):
        """Go to the skip target."""
        node = self._node()
        if len(node) < 4:
            raise NoSkip(self._place)
        self._go(node[3], None)

    def _node(self):
        """The node that the pupil has come to."""
        if self._place < 0:
            raise Ended()
        return self.web[self._place]

    def _go(self, target, told):
        """Go to the target, and remember what undo must know."""
        self._steps.append((self._place, told))
        self._place = target

    def undo(self):
        """Take back the last answer or skip; False if there is none."""
        if not self._steps:
            return False
        self._place = self._steps.pop()[0]
        return True

    def left(self):
        """The different marks that can still come without skips, ascending."""
        return tuple(sorted(set([self._marks[end] for end in self.web.reach(self._place)])))

    def twin(self):
        """A sitting that stands where this one does, and goes its own way from there."""
        other = Sitting(self.web, self._marks)
        other._place = self._place
        other._steps = list(self._steps)
        return other


def _is_deed(deed):
    """True if the value has the form of a deed, by its first word and its number of parts."""
    if not isinstance(deed, (tuple, list)) or len(deed) == 0 or not isinstance(deed[0], str):
        return False
    return PARTS.get(deed[0]) == len(deed)


def _do(sitting, deed):
    """Do one deed."""
    if deed[0] == "answer":
        sitting.answer(deed[1])
    elif deed[0] == "skip":
        sitting.skip()
    elif deed[0] == "undo":
        sitting.undo()
    else:
        sitting.mark_by(deed[1])


def run_deeds(sitting, deeds):
    """Do the deeds in order. Those before a wrong one stay done."""
    for index, deed in enumerate(deeds):
        if not _is_deed(deed):
            raise BadDeed(index)
        _do(sitting, deed)


def preview(sitting, deeds):
    """The position and the mark as they would be behind the deeds."""
    # The deeds are done by a twin, so nothing of them needs to be taken back.
    other = sitting.twin()
    run_deeds(other, deeds)
    return (other.position, other.mark)
