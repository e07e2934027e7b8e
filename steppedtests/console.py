"""The console: a sitting that is led by command lines."""

from steppedtests.errors import BadLine, TestError
from steppedtests.harms import harm, widest_fall
from steppedtests.ladders import Ladder, build
from steppedtests.pupils import Pupil
from steppedtests.sitting import Sitting
from steppedtests.texts import number_in, read_web, write_run
from steppedtests.walks import mark_of

BEGINNING = ("web", "ladder")


class Desk:
    """The place of the sitting that the commands lead; None before the first web."""

    def __init__(self):
        self.sitting = None


def _begin(desk, web):
    """Begin a sitting in the web, with the numbers of its ends as marks."""
    desk.sitting = Sitting(web, tuple(range(web.ends)))
    return "ok"


def _numbers_in(words):
    """The numbers that the words write."""
    numbers = [number_in(word) for word in words]
    if None in numbers:
        raise BadLine(1)
    return numbers


def _mark_in(word):
    """The mark that the word writes, or None if the word has another form."""
    if not word.startswith("-"):
        return number_in(word)
    number = number_in(word[1:])
    return None if number is None or number == 0 else -number


def _web(desk, words):
    return _begin(desk, read_web(" ".join(words).replace(" / ", "\n")))


def _ladder(desk, words):
    if len(words) != 6:
        raise BadLine(1)
    levels, begin, up, down, count, most_wrongs = _numbers_in(words)
    ladder = Ladder(levels=levels, begin=begin, up=up, down=down, count=count, most_wrongs=most_wrongs)
    return _begin(desk, build(ladder))


def _marks(desk, words):
    marks = [_mark_in(word) for word in words]
    if None in marks:
        raise BadLine(1)
    desk.sitting.mark_by(marks)
    return "ok"


def _mark(desk, words):
    pupil = Pupil(_numbers_in(words))
    return str(mark_of(desk.sitting.web, desk.sitting.marks, pupil))


def _right(desk):
    desk.sitting.answer(True)
    return "ok"


def _wrong(desk):
    desk.sitting.answer(False)
    return "ok"


def _skip(desk):
    desk.sitting.skip()
    return "ok"


def _undo(desk):
    return "ok" if desk.sitting.undo() else "nothing"


def _again(desk):
    desk.sitting = Sitting(desk.sitting.web, desk.sitting.marks)
    return "ok"


def _ask(desk):
    question = desk.sitting.question
    return f"end {-1 - desk.sitting.position}" if question is None else str(question)


def _run(desk):
    text = write_run(desk.sitting.run)
    return "none" if text == "" else text


def _left(desk):
    return " ".join([str(mark) for mark in desk.sitting.left()])


def _harm(desk):
    return "yes" if harm(desk.sitting.web, desk.sitting.marks) else "no"


def _widest(desk):
    return str(widest_fall(desk.sitting.web, desk.sitting.marks)[0])


# The commands with more words in their lines, and those without.
WORDED = {"web": _web, "ladder": _ladder, "marks": _marks, "mark": _mark}
PLAIN = {
    "right": _right, "wrong": _wrong, "skip": _skip, "undo": _undo, "again": _again,
    "ask": _ask, "run": _run, "left": _left, "harm": _harm, "widest": _widest,
}


def _do(desk, line):
    """Do the command of the line, and return its answer."""
    words = line.split(" ")
    if words[0] not in WORDED and words[0] not in PLAIN:
        raise BadLine(1)
    if desk.sitting is None and words[0] not in BEGINNING:
        return "error NoWeb"
    if words[0] in WORDED:
        worded = WORDED[words[0]]
        return worded(desk, words[1:])
    if len(words) > 1:
        raise BadLine(1)
    plain = PLAIN[words[0]]
    return plain(desk)


def _answer_to(desk, line):
    """The answer line to the command line."""
    try:
        return _do(desk, line)
    except TestError as error:
        return "error " + error.__class__.__name__


def console(lines):
    """The answer lines to the command lines, one for each."""
    desk = Desk()
    return [_answer_to(desk, line) for line in lines]
