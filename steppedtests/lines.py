"""Lines: how the mean changes from some chances to other ones."""

from steppedtests.chances import check_chances
from steppedtests.polynomials import Polynomial, negative_at
from steppedtests.walks import check_marks


def line_mean(web, marks, first, second):
    """The polynomial of the mean along the line from the first chances to the second ones."""
    check_marks(web, marks)
    check_chances(web, first)
    check_chances(web, second)
    means = {-1 - e: Polynomial([mark]) for e, mark in enumerate(marks)}
    # Targets have greater numbers, so what is behind a node is known when its turn comes.
    for k in web.reached()[::-1]:
        question, right, wrong = web[k][:3]
        chance = Polynomial([first[question], second[question] - first[question]])
        means[k] = means[wrong] + chance * (means[right] - means[wrong])
    return means[web.start]


def falls_along(web, marks, first, second):
    """A ratio from 0 to 1 at which the mean falls along the line, or None."""
    return negative_at(line_mean(web, marks, first, second).derivative(), 0, 1)
