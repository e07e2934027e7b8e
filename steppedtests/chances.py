"""Chances: exact means over pupils who answer each question right by chance."""

from steppedtests.errors import BadChance, BadQuestion, NoChance
from steppedtests.pupils import is_question
from steppedtests.ratios import Ratio
from steppedtests.walks import check_marks


def _questions_of(web):
    """The questions that can be asked from the start without skips, ascending."""
    return web.asked(web.start)


def check_chances(web, chances):
    """Raise an error if a question of the web has no chance, or none from 0 to 1."""
    questions = _questions_of(web)
    for question in questions:
        if question not in chances:
            raise NoChance(question)
    for question in questions:
        if chances[question] < 0 or chances[question] > 1:
            raise BadChance(question)


def _expected(web, marks, chances, more):
    """The mean of the marks at the ends, with so much more for each question that is asked."""
    means = {-1 - e: Ratio(mark) for e, mark in enumerate(marks)}
    # Targets have greater numbers, so what is behind a node is known when its turn comes.
    for k in web.reached()[::-1]:
        question, right, wrong = web[k][:3]
        means[k] = means[wrong] + chances[question] * (means[right] - means[wrong]) + more
    return means[web.start]


def mean(web, marks, chances):
    """The exact mean of the mark."""
    check_marks(web, marks)
    check_chances(web, chances)
    return _expected(web, marks, chances, 0)


def mean_length(web, chances):
    """The exact mean of the number of questions asked."""
    check_chances(web, chances)
    return _expected(web, (0,) * web.ends, chances, 1)


def slope(web, marks, chances, question):
    """The mean with the chance 1 for the question minus the mean with the chance 0."""
    check_marks(web, marks)
    check_chances(web, chances)
    if not is_question(question):
        raise BadQuestion(question)
    sure, hopeless = dict(chances), dict(chances)
    sure[question] = Ratio(1)
    hopeless[question] = Ratio(0)
    return _expected(web, marks, sure, 0) - _expected(web, marks, hopeless, 0)


def corner(web, pupil):
    """The chances 1 and 0 for the questions of the web that the pupil has and has not."""
    return {question: Ratio(1 if question in pupil else 0) for question in _questions_of(web)}
