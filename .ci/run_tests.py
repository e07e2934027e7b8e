"""Run the tests of each folder in a process of its own, and count them.

Without an argument: all folders that hold tests. With an argument: this folder.
Each has a process of its own, since two folders may have files of the same name.
"""

import os
import subprocess
import sys
import unittest

ROOT = os.path.dirname(os.path.dirname(os.path.abspath(__file__)))
OWN = os.path.join(ROOT, "tests")
SHARED = os.path.join(os.path.dirname(ROOT), "shared", "tests")


def is_test(name):
    return name.startswith("test_") and name.endswith(".py")


def test_folders():
    """The project's own folder, and all at and below the shared one that hold a test file."""
    found = [OWN]
    for folder, _, names in sorted(os.walk(SHARED)):
        if any(is_test(name) for name in names):
            found.append(folder)
    return found


def run_folder(folder):
    """Run the test files of one folder; the last line of the output is the counts."""
    sys.path[:0] = [folder, ROOT]
    names = sorted(name[:-3] for name in os.listdir(folder) if is_test(name))
    suite = unittest.defaultTestLoader.loadTestsFromNames(names)
    result = unittest.TextTestRunner(stream=sys.stdout).run(suite)
    failed = len(result.failures) + len(result.errors) + len(result.unexpectedSuccesses)
    passed = max(0, result.testsRun - len(result.skipped) - failed)
    print(f"\n{passed} {failed}", flush=True)


def counts_of(folder):
    """The numbers of passed and failed tests of a folder."""
    words = [sys.executable, os.path.abspath(__file__), folder]
    child = subprocess.run(words, stdout=subprocess.PIPE, text=True, check=False,
                           env=dict(os.environ, PYTHONDONTWRITEBYTECODE="1"))
    print(f"{folder}:\n{child.stdout}", flush=True)
    if child.returncode != 0:
        return 0, 1
    passed, failed = child.stdout.splitlines()[-1].split()
    return int(passed), int(failed)


def run_all():
    """Run all folders. A folder of which no test ran counts as one failure."""
    passed = failed = 0
    for folder in test_folders():
        more, wrong = counts_of(folder)
        passed += more
        failed += wrong if more + wrong else 1
    print(f"{passed} passed, {failed} failed")
    return 0 if passed and not failed else 1


if __name__ == "__main__":
    if len(sys.argv) > 1:
        run_folder(sys.argv[1])
    else:
        sys.exit(run_all())
