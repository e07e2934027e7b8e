"""Texts: webs and runs in writing."""

from steppedtests.errors import BadLine
from steppedtests.pupils import is_question
from steppedtests.webs import Web

MOST_DIGITS = 4
SIGNS = {1: "+", 0: "-", None: "?"}
ANSWERS = {"+": 1, "-": 0}


def number_in(word):
    """The number that the word writes, or None if the word has another form."""
    if not word.isascii() or not word.isdigit() or len(word) > MOST_DIGITS:
        return None
    if word.startswith("0") and word != "0":
        return None
    return int(word)


def position_in(word):
    """The position that the word writes, or None if the word has another form."""
    if not word.startswith("#"):
        return number_in(word)
    end = number_in(word[1:])
    return None if end is None else -1 - end


def _word_of(position):
    """The word that writes the position."""
    return str(position) if position >= 0 else f"#{-1 - position}"


def write_web(web):
    """The text of the web."""
    lines = [f"ends {web.ends} start {_word_of(web.start)}"]
    for node in web.nodes:
        lines.append(" ".join([str(node[0])] + [_word_of(target) for target in node[1:]]))
    return "\n".join(lines)


def read_web(text):
    """The web of the text."""
    lines = text.split("\n")
    ends, start = _head_in(lines[0])
    nodes = [_node_in(line, number) for number, line in enumerate(lines[1:], start=2)]
    return Web(nodes, ends, start=start)


def _head_in(line):
    """The number of ends and the start that the first line writes."""
    words = line.split(" ")
    if len(words) != 4 or words[0] != "ends" or words[2] != "start":
        raise BadLine(1)
    ends, start = number_in(words[1]), position_in(words[3])
    if ends is None or start is None:
        raise BadLine(1)
    return ends, start


def _node_in(line, number):
    """The node that the line with this number writes."""
    words = line.split(" ")
    if len(words) not in (3, 4):
        raise BadLine(number)
    node = [number_in(words[0])] + [position_in(word) for word in words[1:]]
    if None in node:
        raise BadLine(number)
    return tuple(node)


def write_run(run):
    """The text of the run."""
    return " ".join([f"{question}{SIGNS[answer]}" for question, answer in run])


def read_run(text):
    """The run of the text."""
    words = text.split(" ") if text != "" else []
    return tuple([_step_in(word) for word in words])


def _step_in(word):
    """The pair of a question and an answer that the word writes."""
    question, sign = number_in(word[:-1]), word[-1:]
    if question is None or not is_question(question) or sign not in ANSWERS:
        raise BadLine(1)
    return (question, ANSWERS[sign])
