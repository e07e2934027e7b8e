"""The errors of this program."""


class TestError(ValueError):
    """The base class of all errors of this program."""


class BadEnds(TestError):
    """The number of ends is not 1 to 60."""

    def __init__(self, count):
        TestError.__init__(self, f"{count} ends instead of 1 to 60")
        self.count = count


class BadNode(TestError):
    """A node has a wrong length, question or target."""

    def __init__(self, index):
        TestError.__init__(self, f"node {index} has a wrong length, question or target")
        self.index = index


class BadStart(TestError):
    """The start of a web is no position."""

    def __init__(self, place):
        TestError.__init__(self, f"the start {place} is no position")
        self.place = place


class TwiceAsked(TestError):
    """The question of a node is asked again behind it."""

    def __init__(self, index):
        TestError.__init__(self, f"the question of node {index} is asked again behind it")
        self.index = index


class NoNode(TestError):
    """There is no node with this number."""

    def __init__(self, index):
        TestError.__init__(self, f"there is no node {index}")
        self.index = index


class NoPosition(TestError):
    """This is no position of the web."""

    def __init__(self, place):
        TestError.__init__(self, f"{place} is no position")
        self.place = place


class BadQuestion(TestError):
    """A question is not 0 to 47."""

    def __init__(self, number):
        TestError.__init__(self, f"question {number} is not 0 to 47")
        self.number = number


class BadMarks(TestError):
    """There are not as many marks as ends."""

    def __init__(self, count):
        TestError.__init__(self, f"{count} marks are not as many as the ends")
        self.count = count


class BadLadder(TestError):
    """A number of a ladder is out of its range."""

    def __init__(self, word):
        TestError.__init__(self, f"{word} is not a number that a ladder can have")
        self.word = word


class BadCount(TestError):
    """A joint walk has not one to three walkers."""

    def __init__(self, count):
        TestError.__init__(self, f"{count} webs instead of one to three")
        self.count = count


class BadRelation(TestError):
    """A relation is unknown, or not for so many walkers."""

    def __init__(self, word):
        TestError.__init__(self, f"there is no relation {word} for these webs")
        self.word = word


class BadPositions(TestError):
    """A start of a joint walk does not fit its webs."""

    def __init__(self, index):
        TestError.__init__(self, f"start {index} has not one position for each walker")
        self.index = index


class NoFinal(TestError):
    """These ends are no final of the joint walk."""

    def __init__(self, ends):
        TestError.__init__(self, f"the ends {ends} are no final")
        # A list may be passed for a tuple, but errors hold tuples.
        self.ends = tuple(ends) if isinstance(ends, list) else ends


class NotReached(TestError):
    """A node is not reached."""

    def __init__(self, index):
        TestError.__init__(self, f"node {index} is not reached")
        self.index = index


class NoEnd(TestError):
    """There is no end with this number."""

    def __init__(self, number):
        TestError.__init__(self, f"there is no end {number}")
        self.number = number


class ZeroBottom(TestError):
    """The bottom of a ratio is 0."""

    def __init__(self):
        TestError.__init__(self, "the bottom is 0")


class NoChance(TestError):
    """A question of the web has no chance."""

    def __init__(self, number):
        TestError.__init__(self, f"question {number} has no chance")
        self.number = number


class BadChance(TestError):
    """The chance of a question is not from 0 to 1."""

    def __init__(self, number):
        TestError.__init__(self, f"the chance of question {number} is not from 0 to 1")
        self.number = number


class ZeroPolynomial(TestError):
    """A polynomial is 0 everywhere."""

    def __init__(self):
        TestError.__init__(self, "the polynomial has no parts")


class BadInterval(TestError):
    """The low border of an interval is above the high one."""

    def __init__(self):
        TestError.__init__(self, "the low border is above the high one")


class NoSkip(TestError):
    """A node has no skip target."""

    def __init__(self, index):
        TestError.__init__(self, f"node {index} has no skip")
        self.index = index


class NotComing(TestError):
    """The pupil does not come to a node."""

    def __init__(self, index):
        TestError.__init__(self, f"the pupil does not come to node {index}")
        self.index = index


class NoPupils(TestError):
    """No pupils were given."""

    def __init__(self):
        TestError.__init__(self, "there are no pupils")


class BadLength(TestError):
    """There are not as many classes as pupils."""

    def __init__(self, count):
        TestError.__init__(self, f"{count} classes are not as many as the pupils")
        self.count = count


class AlikePupils(TestError):
    """Two pupils of unlike classes answer all alike."""

    def __init__(self, first, second):
        TestError.__init__(self, f"pupils {first} and {second} answer all the questions alike")
        self.first = first
        self.second = second


class BadLine(TestError):
    """A line of a text has another form."""

    def __init__(self, line):
        TestError.__init__(self, f"line {line} has another form")
        self.line = line


class Ended(TestError):
    """The sitting has come to an end."""

    def __init__(self):
        TestError.__init__(self, "the sitting has come to an end")


class BadDeed(TestError):
    """A deed has none of the four forms."""

    def __init__(self, index):
        TestError.__init__(self, f"deed {index} has none of the four forms")
        self.index = index
