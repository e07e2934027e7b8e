"""Pupils: the sets of questions that they answer right."""

from steppedtests.errors import BadQuestion

QUESTIONS = 48


def is_question(number):
    """True if a question has this number."""
    return 0 <= number < QUESTIONS


class Pupil:
    """A pupil who answers these questions right and all others wrong."""

    def __init__(self, questions):
        taken = tuple(questions)
        for question in taken:
            if not is_question(question):
                raise BadQuestion(question)
        self.rights = tuple(sorted(set(taken)))

    def __le__(self, other):
        return all([question in other.rights for question in self.rights])

    def __or__(self, other):
        return Pupil(self.rights + other.rights)

    def __and__(self, other):
        return Pupil([question for question in self.rights if question in other.rights])

    def __sub__(self, other):
        return Pupil([question for question in self.rights if question not in other.rights])

    def __contains__(self, x):
        return x in self.rights

    def __len__(self):
        return len(self.rights)

    def __eq__(self, other):
        return isinstance(other, Pupil) and self.rights == other.rights

    def added(self, question):
        """The pupil with the question too."""
        return Pupil(self.rights + (question,))
