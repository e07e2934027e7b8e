"""Papers: closed sets of states that show which ends walkers can come to."""

from steppedtests.joint import ends_of, have_place
from steppedtests.pupils import is_question
from steppedtests.shapes import are_numbers, ascends, is_number, is_pair


def covers(state, other):
    """True if the state covers the other one."""
    return state[0] == other[0] and all([entry in other[1] for entry in state[1]])


def accepts(joint, paper, allowed):
    """True if the paper shows that all finals of the joint walk are allowed."""
    if not _is_paper(joint.webs, paper):
        return False
    permitted = {tuple(ends): True for ends in allowed}
    written = {state: True for state in paper}
    due = {(start, ()): True for start in joint.starts}
    for state in written:
        if joint.turn(state) is None and ends_of(state) not in permitted:
            return False
        for _, found in joint.steps(state):
            due[found] = True
    return _covers_all(written, due)


def _covers_all(written, due):
    """True if each of the due states is covered by a written one. Both are dicts of True."""
    bits = _bits_of_entries(written)
    masks = {}
    for positions, memory in written:
        masks.setdefault(positions, []).append(_mask_of(memory, bits))
    for state in due:
        # Most states cover themselves; only the others are compared one by one.
        if state not in written and not _is_covered(_mask_of(state[1], bits), masks.get(state[0], [])):
            return False
    return True


def _bits_of_entries(written):
    """A bit for each entry in these states, so that memories are compared as numbers."""
    bits = {}
    for _, memory in written:
        for entry in memory:
            if entry not in bits:
                bits[entry] = 1 << len(bits)
    return bits


def _mask_of(memory, bits):
    """The bits of the entries of a memory. An entry that is not written has none."""
    return sum([bits.get(entry, 0) for entry in memory])


def _is_covered(mask, covering):
    """True if all bits of one of the covering masks are bits of the mask."""
    for other in covering:
        if mask & other == other:
            return True
    return False


def _is_paper(webs, paper):
    """True if the paper has the shape of a tuple of states of walkers in these webs."""
    return isinstance(paper, tuple) and all([_is_state(webs, state) for state in paper])


def _is_state(webs, state):
    """True if the value has the shape of a state."""
    if not is_pair(state):
        return False
    positions, memory = state
    if not are_numbers(positions) or not have_place(webs, positions):
        return False
    return _is_memory(memory, len(webs))


def _is_memory(memory, walkers):
    """True if the value has the shape of a memory of so many walkers."""
    if not isinstance(memory, tuple) or not all([_is_entry(entry, walkers) for entry in memory]):
        return False
    return ascends([entry[0] for entry in memory])


def _is_entry(entry, walkers):
    """True if the value has the shape of an entry with an answer for each walker."""
    if not is_pair(entry):
        return False
    question, answers = entry
    if not is_number(question) or not is_question(question):
        return False
    return are_numbers(answers) and len(answers) == walkers and all([-1 <= answer <= 1 for answer in answers])
