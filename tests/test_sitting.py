import copy
import random
import unittest

from helpers import led_to, random_marks, small_webs, steps_of, subsets
from steppedtests.errors import BadDeed, BadMarks, Ended, NoSkip
from steppedtests.pupils import Pupil
from steppedtests.sitting import Sitting, preview, run_deeds
from steppedtests.walks import end_of, run_of
from steppedtests.webs import Web

WEB = Web([(1, 1, 2, 3), (2, -1, -2), (3, -2, -3, 3), (4, -1, -4)], 4)
MARKS = (30, 10, 20, 10)


def state_of(sitting):
    """All that the sitting tells."""
    return (sitting.position, sitting.question, sitting.run, sitting.mark, sitting.marks, sitting.left())


def state_by_words(web, marks, steps):
    """The same behind the steps (node, answer, position), by points 47 and 49."""
    place = steps[-1][2] if steps else web.start
    question = web.nodes[place][0] if place >= 0 else None
    run = tuple((web.nodes[node][0], answer) for node, answer, _ in steps)
    left = sorted({marks[-1 - end] for end in led_to(web.nodes, place) if end < 0})
    return (place, question, run, marks[-1 - place] if place < 0 else None, tuple(marks), tuple(left))


def undone(sitting):
    """All states of the sitting from now back to its beginning, by undo; it ends there."""
    found = [state_of(sitting)]
    while sitting.undo():
        found.append(state_of(sitting))
    return found


def whole(sitting):
    """All states back to the beginning; the sitting stays as it is."""
    return undone(copy.deepcopy(sitting))


class Constructor(unittest.TestCase):
    def test_the_beginning(self):
        sitting = Sitting(WEB, MARKS)
        self.assertEqual(state_of(sitting), (0, 1, (), None, MARKS, (10, 20, 30)))
        self.assertEqual(sitting.web, WEB)
        self.assertEqual(state_of(Sitting(WEB, list(MARKS))), state_of(sitting))
        other = Web(WEB.nodes, 4, start=2)
        self.assertEqual(state_of(Sitting(other, MARKS)), (2, 3, (), None, MARKS, (10, 20)))

    def test_a_start_at_an_end(self):
        for web in (Web([], 4, start=-3), Web(WEB.nodes, 4, start=-3)):
            sitting = Sitting(web, MARKS)
            self.assertEqual(state_of(sitting), (-3, None, (), 20, MARKS, (20,)))
            self.assertIs(sitting.undo(), False)
            self.assertRaises(Ended, sitting.answer, True)
            self.assertRaises(Ended, sitting.skip)

    def test_numbers_of_marks(self):
        for count in (0, 1, 3, 5, 60):
            with self.assertRaises(BadMarks) as caught:
                Sitting(WEB, [0] * count)
            self.assertEqual(caught.exception.count, count)

    def test_keywords(self):
        self.assertEqual(state_of(Sitting(marks=MARKS, web=WEB)), state_of(Sitting(WEB, MARKS)))


class Deeds(unittest.TestCase):
    def test_by_hand(self):
        sitting = Sitting(WEB, MARKS)
        self.assertIsNone(sitting.answer(False))
        self.assertEqual(state_of(sitting), (2, 3, ((1, 0),), None, MARKS, (10, 20)))
        self.assertIsNone(sitting.skip())
        self.assertEqual(state_of(sitting), (3, 4, ((1, 0), (3, None)), None, MARKS, (10, 30)))
        self.assertIsNone(sitting.answer(True))
        self.assertEqual(state_of(sitting), (-1, None, ((1, 0), (3, None), (4, 1)), 30, MARKS, (30,)))
        self.assertIs(sitting.undo(), True)
        self.assertEqual(state_of(sitting), (3, 4, ((1, 0), (3, None)), None, MARKS, (10, 30)))
        self.assertIsNone(sitting.answer(False))
        self.assertEqual(sitting.mark, 10)
        self.assertEqual([sitting.undo() for _ in range(5)], [True, True, True, False, False])
        self.assertEqual(state_of(sitting), (0, 1, (), None, MARKS, (10, 20, 30)))

    def test_all_ways_of_small_webs(self):
        """Each answer and skip leads where the web says, and undo leads back."""
        chance = random.Random(1)
        checked = 0
        for web in (WEB, *small_webs(1, 60)):
            marks = random_marks(chance, web.ends)
            waiting = [[]]
            while waiting and checked < 20000:
                steps = waiting.pop()
                sitting = Sitting(web, marks)
                for _, answer, _ in steps:
                    if answer is None:
                        sitting.skip()
                    else:
                        sitting.answer(answer == 1)
                wanted = [state_by_words(web, marks, steps[:k]) for k in range(len(steps), -1, -1)]
                self.assertEqual(state_of(sitting), wanted[0])
                self.assertEqual(whole(sitting), wanted)
                checked += 1
                place = wanted[0][0]
                if place >= 0:
                    targets = web.nodes[place][1:]
                    for answer, target in zip((1, 0, None), targets):
                        waiting.append([*steps, (place, answer, target)])
                    if len(targets) == 2:
                        with self.assertRaises(NoSkip) as caught:
                            sitting.skip()
                        self.assertEqual(caught.exception.index, place)
                else:
                    for call in (lambda: sitting.answer(True), lambda: sitting.answer(False), sitting.skip):
                        self.assertRaises(Ended, call)
                # Neither what was raised nor undo leaves a trace.
                self.assertEqual(undone(sitting), wanted)
                self.assertIs(sitting.undo(), False)
                self.assertEqual(state_of(sitting), wanted[-1])
        self.assertGreater(checked, 500)

    def test_pupils(self):
        for web in small_webs(2, 60):
            marks = tuple(range(web.ends))
            for rights in subsets(web.asked(web.start)):
                sitting = Sitting(web, marks)
                while sitting.question is not None:
                    self.assertIn(end_of(web, Pupil(rights)), sitting.left())
                    sitting.answer(sitting.question in rights)
                self.assertEqual(sitting.run, run_of(web, Pupil(rights)))
                self.assertEqual(sitting.mark, end_of(web, Pupil(rights)))

    def test_left(self):
        """The marks that can still come are those of the pupils' walks from the position."""
        chance = random.Random(3)
        for web in small_webs(3, 100):
            marks = random_marks(chance, web.ends)
            for start in range(-web.ends, len(web)):
                sitting = Sitting(Web(web.nodes, web.ends, start=start), marks)
                ends = {steps_of(web.nodes, rights, start)[1] for rights in subsets(web.asked(start))}
                found = sitting.left()
                self.assertIsInstance(found, tuple)
                self.assertEqual(found, tuple(sorted({marks[-1 - end] for end in ends})))

    def test_left_leaves_out_skips(self):
        sitting = Sitting(Web([(1, -1, -2, -3)], 3), [1, 2, 3])
        self.assertEqual(sitting.left(), (1, 2))
        sitting.skip()
        self.assertEqual(sitting.left(), (3,))


class Marks(unittest.TestCase):
    def test_assigned_and_by_call(self):
        for assign in (lambda sitting, marks: setattr(sitting, "marks", marks), Sitting.mark_by):
            sitting = Sitting(WEB, MARKS)
            self.assertIsNone(assign(sitting, [1, 2, 3, 4]))
            self.assertEqual(sitting.marks, (1, 2, 3, 4))
            sitting.answer(True)
            assign(sitting, (5, -6, 7, 8))
            self.assertEqual(state_of(sitting), (1, 2, ((1, 1),), None, (5, -6, 7, 8), (-6, 5)))
            sitting.answer(False)
            assign(sitting, (1, 10 ** 20 - 1, 3, 4))
            self.assertEqual(sitting.mark, 10 ** 20 - 1)

    def test_wrong_numbers_of_marks(self):
        sitting = Sitting(WEB, MARKS)
        sitting.answer(False)
        before = whole(sitting)
        for count in (0, 1, 3, 5):
            for marks in ([0] * count, (0,) * count):
                with self.assertRaises(BadMarks) as caught:
                    sitting.marks = marks
                self.assertEqual(caught.exception.count, count)
                with self.assertRaises(BadMarks) as caught:
                    sitting.mark_by(marks)
                self.assertEqual(caught.exception.count, count)
                self.assertEqual(whole(sitting), before)

    def test_undo_does_not_take_marks_back(self):
        sitting = Sitting(WEB, MARKS)
        sitting.answer(True)
        sitting.marks = (1, 2, 3, 4)
        sitting.answer(True)
        sitting.mark_by((5, 6, 7, 8))
        self.assertEqual(sitting.mark, 5)
        self.assertIs(sitting.undo(), True)
        self.assertEqual((sitting.position, sitting.marks), (1, (5, 6, 7, 8)))
        self.assertIs(sitting.undo(), True)
        self.assertEqual((sitting.position, sitting.marks), (0, (5, 6, 7, 8)))
        self.assertIs(sitting.undo(), False)

    def test_later_changes_of_a_list(self):
        marks, others = list(MARKS), [1, 2, 3, 4]
        sitting = Sitting(WEB, marks)
        marks[0] = 99
        self.assertEqual(sitting.marks, MARKS)
        for assign in (lambda: setattr(sitting, "marks", others), lambda: sitting.mark_by(others)):
            others[:] = [1, 2, 3, 4]
            assign()
            others.append(5)
            others[1] = 99
            self.assertEqual(sitting.marks, (1, 2, 3, 4))

    def test_only_marks_can_be_assigned(self):
        sitting = Sitting(WEB, MARKS)
        for word in ("position", "question", "run", "mark"):
            self.assertRaises(AttributeError, setattr, sitting, word, None)
            self.assertIsInstance(vars(Sitting)[word], property)
        self.assertEqual(state_of(sitting), state_of(Sitting(WEB, MARKS)))


GOOD = (("answer", True), ("answer", False), ("skip",), ("undo",), ("marks", (1, 2, 3, 4)))
WRONG = ((), ("answer",), ("answer", True, False), ("skip", 1), ("skip", None), ("undo", 1), ("undo", "undo"),
         ("marks",), ("marks", 1, 2, 3, 4), ("marks", MARKS, MARKS), ("Answer", True), ("wrong",), ("right",),
         ("mark", MARKS), ("",),
         ("left",), (True,), (None,), (1, "skip"), ("answer ", True), (("skip",),), ("question",), ("again",))


class RunDeeds(unittest.TestCase):
    def test_each_form(self):
        sitting = Sitting(WEB, MARKS)
        self.assertIsNone(run_deeds(sitting, []))
        self.assertIsNone(run_deeds(sitting, ()))
        self.assertEqual(state_of(sitting), state_of(Sitting(WEB, MARKS)))
        self.assertIsNone(run_deeds(sitting, [("answer", False), ("skip",), ("answer", True), ("marks", (4, 3, 2, 1))]))
        self.assertEqual(state_of(sitting), (-1, None, ((1, 0), (3, None), (4, 1)), 4, (4, 3, 2, 1), (4,)))
        self.assertIsNone(run_deeds(sitting, (("undo",), ("answer", False))))
        self.assertEqual(state_of(sitting), (-4, None, ((1, 0), (3, None), (4, 0)), 1, (4, 3, 2, 1), (1,)))
        run_deeds(sitting, [("undo",)] * 5)
        self.assertEqual(sitting.position, 0)

    def test_deeds_as_lists(self):
        for kind in (list, tuple):
            deeds = kind([kind(["answer", False]), kind(["skip"]), kind(["undo"]), kind(["marks", kind([1, 2, 3, 4])])])
            sitting = Sitting(WEB, MARKS)
            run_deeds(sitting, deeds)
            self.assertEqual(state_of(sitting), (2, 3, ((1, 0),), None, (1, 2, 3, 4), (2, 3)))

    def test_like_the_methods(self):
        """A row of deeds does what the methods do one by one, up to the first error."""
        chance = random.Random(4)
        failed = 0
        for web in small_webs(4, 400):
            marks = random_marks(chance, web.ends)
            deeds = [chance.choice([("answer", True), ("answer", False), ("answer", True), ("skip",), ("undo",),
                                    ("marks", random_marks(chance, chance.choice([web.ends] * 5 + [7])))])
                     for _ in range(chance.randrange(8))]
            one, two = Sitting(web, marks), Sitting(web, marks)
            errors = []
            for deed in deeds:
                method = {"answer": one.answer, "skip": one.skip, "undo": one.undo, "marks": one.mark_by}[deed[0]]
                try:
                    method(*deed[1:])
                except (Ended, NoSkip, BadMarks) as error:
                    errors.append(error)
                    break
            kept = list(deeds)
            before = whole(two)
            if errors:
                failed += 1
                for call in (lambda: preview(two, deeds), lambda: run_deeds(two, deeds)):
                    self.assertEqual(whole(two), before)
                    with self.assertRaises(errors[0].__class__) as caught:
                        call()
                    self.assertEqual(vars(caught.exception), vars(errors[0]))
            else:
                self.assertEqual(preview(two, deeds), (one.position, one.mark))
                self.assertEqual(whole(two), before)
                run_deeds(two, deeds)
            self.assertEqual(deeds, kept)
            self.assertEqual(whole(two), whole(one))
        self.assertTrue(50 < failed < 350)

    def test_wrong_deeds(self):
        for wrong in (*WRONG, *[list(deed) for deed in WRONG], None, 5, "skip", "undo", "s"):
            for before in ([], [("answer", False)], [("answer", False), ("undo",), ("marks", (4, 3, 2, 1))]):
                deeds = [*before, wrong, ("answer", True), ("skip",)]
                sitting, done = Sitting(WEB, MARKS), Sitting(WEB, MARKS)
                with self.subTest(deeds):
                    kept = whole(sitting)
                    with self.assertRaises(BadDeed) as caught:
                        preview(sitting, deeds)
                    self.assertEqual(caught.exception.index, len(before))
                    self.assertEqual(whole(sitting), kept)
                    with self.assertRaises(BadDeed) as caught:
                        run_deeds(sitting, deeds)
                    self.assertEqual(caught.exception.index, len(before))
                    run_deeds(done, before)
                    self.assertEqual(whole(sitting), whole(done))

    def test_a_wrong_deed_waits_for_its_turn(self):
        for deeds, error in (([("marks", (1,)), ("sip",)], BadMarks), ([("skip",), ("skip",), ()], NoSkip),
                             ([("answer", True)] * 3 + [()], Ended), ([("answer", True)] * 2 + [("skip",), ()], Ended),
                             ([("answer", True)] * 2 + [("skip", 1)], BadDeed),
                             ([("skip", 1), ("marks", (1,))], BadDeed)):
            self.assertRaises(error, preview, Sitting(WEB, MARKS), deeds)
            self.assertRaises(error, run_deeds, Sitting(WEB, MARKS), deeds)

    def test_what_was_done_stays_done(self):
        for k in range(4):
            deeds = [("answer", False), ("marks", (1, 2, 3, 4)), ("skip",), ("undo",)]
            wanted = Sitting(WEB, MARKS)
            run_deeds(wanted, deeds[:k])
            for wrong, error in ((("marks", ()), BadMarks), (("jump",), BadDeed)):
                sitting = Sitting(WEB, MARKS)
                self.assertRaises(error, run_deeds, sitting, [*deeds[:k], wrong, *deeds[k:]])
                self.assertEqual(whole(sitting), whole(wanted))


class Preview(unittest.TestCase):
    def test_by_hand(self):
        sitting = Sitting(WEB, MARKS)
        sitting.answer(False)
        before = whole(sitting)
        for deeds, wanted in (([], (2, None)), ((), (2, None)), ([("answer", True)], (-2, 10)),
                              ([("undo",)], (0, None)), ([("undo",)] * 3, (0, None)),
                              ([("skip",), ("answer", True)], (-1, 30)),
                              ([("answer", False), ("marks", [1, 2, 3, 4])], (-3, 3)),
                              ([("undo",), ("answer", True), ("answer", True), ("marks", (9, 2, 3, 4))], (-1, 9)),
                              ([["undo"], ["skip"], ["answer", False]], (-4, 10))):
            found = preview(sitting, deeds)
            self.assertIsInstance(found, tuple)
            self.assertEqual(found, wanted)
            self.assertEqual(whole(sitting), before)
        sitting.answer(True)
        self.assertEqual(preview(sitting, []), (-2, 10))
        self.assertEqual(preview(sitting, [("marks", (0, 7, 0, 0))]), (-2, 7))
        self.assertEqual(sitting.mark, 10)

    def test_a_previewed_sitting_goes_on(self):
        sitting = Sitting(WEB, MARKS)
        preview(sitting, [("answer", False), ("answer", False)])
        sitting.answer(True)
        preview(sitting, [("undo",), ("undo",), ("marks", (1, 2, 3, 4))])
        sitting.answer(True)
        self.assertEqual(whole(sitting), [
            (-1, None, ((1, 1), (2, 1)), 30, MARKS, (30,)), (1, 2, ((1, 1),), None, MARKS, (10, 30)),
            (0, 1, (), None, MARKS, (10, 20, 30))])


if __name__ == "__main__":
    unittest.main()
