"""The names, arguments and places that the interface lists."""

import ast
import importlib
import inspect
import os
import unittest

ROOT = os.path.dirname(os.path.dirname(os.path.abspath(__file__)))
PACKAGE = os.path.join(ROOT, "steppedtests")

ERRORS = (
    "TestError BadEnds BadNode BadStart TwiceAsked NoNode NoPosition BadQuestion BadMarks BadLadder BadCount "
    "BadRelation BadPositions NoFinal NotReached NoEnd ZeroBottom NoChance BadChance ZeroPolynomial BadInterval "
    "NoSkip NotComing NoPupils BadLength AlikePupils BadLine Ended BadDeed"
).split()
DEFINED = {
    "errors": ERRORS,
    "webs": ["Web"],
    "pupils": ["Pupil"],
    "walks": ["walk", "run_of", "end_of", "mark_of"],
    "ladders": ["Ladder", "ladder_run", "build"],
    "joint": ["Joint"],
    "papers": ["covers", "accepts"],
    "harms": ["Answer", "splits", "harmless", "harm", "greatest_fall", "greatest_rise", "widest_fall"],
    "comparing": ["alike", "widest_difference", "matters", "without"],
    "scales": ["arrows", "rests", "is_fair", "fullest_scale", "parting_scale", "ring", "ring_holds"],
    "ratios": ["Ratio"],
    "chances": ["mean", "mean_length", "slope", "corner"],
    "polynomials": ["Polynomial", "count_roots", "negative_at"],
    "lines": ["line_mean", "falls_along"],
    "guesses": ["guess", "guesses"],
    "classes": ["depth", "tells", "least_questions", "bound_holds"],
    "toldback": ["fitting"],
    "texts": ["write_web", "read_web", "write_run", "read_run"],
    "sitting": ["Sitting", "run_deeds", "preview"],
    "console": ["console"],
}
SIGNATURES = {
    ("webs", "Web"): "(nodes, ends, *, start=None)",
    ("webs", "Web.asked"): "(self, position)",
    ("webs", "Web.reach"): "(self, position)",
    ("webs", "Web.reached"): "(self)",
    ("pupils", "Pupil"): "(questions)",
    ("pupils", "Pupil.added"): "(self, question)",
    ("walks", "walk"): "(web, pupil, start=None)",
    ("walks", "run_of"): "(web, pupil)",
    ("walks", "end_of"): "(web, pupil, start=None)",
    ("walks", "mark_of"): "(web, marks, pupil)",
    ("ladders", "Ladder"): "(*, levels=3, begin=2, up=1, down=1, count=4, most_wrongs=0)",
    ("ladders", "Ladder.changed"): "(self, **words)",
    ("ladders", "ladder_run"): "(ladder, pupil)",
    ("ladders", "build"): "(ladder)",
    ("joint", "Joint"): "(webs, starts, *, relation='same')",
    ("joint", "Joint.turn"): "(self, state)",
    ("joint", "Joint.steps"): "(self, state)",
    ("joint", "Joint.states"): "(self)",
    ("joint", "Joint.finals"): "(self)",
    ("joint", "Joint.trail"): "(self, ends)",
    ("papers", "covers"): "(state, other)",
    ("papers", "accepts"): "(joint, paper, allowed)",
    ("harms", "Answer"): "(found, witness, paper)",
    ("harms", "splits"): "(web)",
    ("harms", "harmless"): "(marks)",
    ("harms", "harm"): "(web, marks)",
    ("harms", "greatest_fall"): "(web, marks)",
    ("harms", "greatest_rise"): "(web, marks)",
    ("harms", "widest_fall"): "(web, marks)",
    ("comparing", "alike"): "(first, marks, second, others)",
    ("comparing", "widest_difference"): "(first, marks, second, others)",
    ("comparing", "matters"): "(web, marks, node)",
    ("comparing", "without"): "(web, node)",
    ("scales", "arrows"): "(web)",
    ("scales", "rests"): "(web)",
    ("scales", "is_fair"): "(web, marks)",
    ("scales", "fullest_scale"): "(web)",
    ("scales", "parting_scale"): "(web, e, f)",
    ("scales", "ring"): "(web, e, f)",
    ("scales", "ring_holds"): "(web, ring)",
    ("ratios", "Ratio"): "(top, bottom=1)",
    ("ratios", "Ratio.over"): "(self, other)",
    ("chances", "mean"): "(web, marks, chances)",
    ("chances", "mean_length"): "(web, chances)",
    ("chances", "slope"): "(web, marks, chances, question)",
    ("chances", "corner"): "(web, pupil)",
    ("polynomials", "Polynomial"): "(parts)",
    ("polynomials", "Polynomial.derivative"): "(self)",
    ("polynomials", "count_roots"): "(p, low, high)",
    ("polynomials", "negative_at"): "(p, low, high)",
    ("lines", "line_mean"): "(web, marks, first, second)",
    ("lines", "falls_along"): "(web, marks, first, second)",
    ("guesses", "guess"): "(web, marks, node, pupil)",
    ("guesses", "guesses"): "(web, marks, node)",
    ("classes", "depth"): "(tree)",
    ("classes", "tells"): "(pupils, classes, questions, tree)",
    ("classes", "least_questions"): "(pupils, classes, questions)",
    ("classes", "bound_holds"): "(pupils, classes, questions, table, n)",
    ("toldback", "fitting"): "(runs, *, levels, count)",
    ("texts", "write_web"): "(web)",
    ("texts", "read_web"): "(text)",
    ("texts", "write_run"): "(run)",
    ("texts", "read_run"): "(text)",
    ("sitting", "Sitting"): "(web, marks)",
    ("sitting", "Sitting.answer"): "(self, right)",
    ("sitting", "Sitting.skip"): "(self)",
    ("sitting", "Sitting.undo"): "(self)",
    ("sitting", "Sitting.left"): "(self)",
    ("sitting", "Sitting.mark_by"): "(self, marks)",
    ("sitting", "run_deeds"): "(sitting, deeds)",
    ("sitting", "preview"): "(sitting, deeds)",
    ("console", "console"): "(lines)",
}
METHODS = {
    ("webs", "Web"): ["__len__", "__getitem__", "__contains__", "__eq__", "asked", "reach", "reached"],
    ("pupils", "Pupil"): ["__le__", "__or__", "__and__", "__sub__", "__contains__", "__len__", "__eq__", "added"],
    ("ladders", "Ladder"): ["__eq__", "changed"],
    ("joint", "Joint"): ["turn", "steps", "states", "finals", "trail"],
    ("harms", "Answer"): ["__bool__"],
    ("ratios", "Ratio"): ["__add__", "__sub__", "__mul__", "__neg__", "__eq__", "__lt__", "__le__", "__gt__", "__ge__",
                          "__bool__", "__str__", "over"],
    ("polynomials", "Polynomial"): ["__add__", "__sub__", "__mul__", "__neg__", "__eq__", "__call__", "__len__",
                                    "derivative"],
    ("sitting", "Sitting"): ["position", "question", "run", "mark", "marks", "answer", "skip", "undo", "left",
                             "mark_by"],
}


def module(name):
    return importlib.import_module(f"steppedtests.{name}")


def sources():
    """Pairs of a file's name and its text."""
    for name in sorted(os.listdir(PACKAGE)):
        if name != "__pycache__":
            with open(os.path.join(PACKAGE, name), encoding="utf-8") as file:
                yield name, file.read()


class Interface(unittest.TestCase):
    def test_each_name_is_defined_in_its_file(self):
        for name, words in DEFINED.items():
            with open(os.path.join(PACKAGE, f"{name}.py"), encoding="utf-8") as file:
                tree = ast.parse(file.read())
            defined = {row.name for row in tree.body if isinstance(row, (ast.FunctionDef, ast.ClassDef))}
            with self.subTest(name):
                self.assertEqual(set(words) - defined, set())
                self.assertTrue(all(hasattr(module(name), word) for word in words))

    def test_arguments(self):
        for (name, words), signature in SIGNATURES.items():
            with self.subTest(words):
                found = module(name)
                for word in words.split("."):
                    found = getattr(found, word)
                self.assertEqual(str(inspect.signature(found)), signature)

    def test_methods_are_defined_in_the_class_itself(self):
        for (name, word), methods in METHODS.items():
            with self.subTest(word):
                own = vars(getattr(module(name), word))
                self.assertEqual([method for method in methods if method not in own], [])


class Files(unittest.TestCase):
    """The sizes and characters that the rules L1, L10 and L14 allow."""

    def test_the_package_holds_python_files_only(self):
        self.assertEqual([name for name, _ in sources() if not name.endswith(".py")], [])

    def test_sizes_and_characters(self):
        for name, text in sources():
            with self.subTest(name):
                lines = text.split("\n")
                self.assertLessEqual(len(lines), 399)
                self.assertLessEqual(max(len(line) for line in lines), 120)
                self.assertTrue(all(char == "\n" or " " <= char <= "~" for char in text))
                for row in ast.walk(ast.parse(text)):
                    if isinstance(row, ast.FunctionDef):
                        self.assertLessEqual(row.end_lineno - row.lineno + 1, 40)


if __name__ == "__main__":
    unittest.main()
