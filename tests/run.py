"""Runs every test of the project and every one under ../shared/tests, and closes with `N passed, N failed`.

Each folder with tests runs in a process of its own, so that files with the same name do not get into each other's way.
"""

import json
import os
import subprocess
import sys
import tempfile
import unittest

ROOT = os.path.dirname(os.path.dirname(os.path.abspath(__file__)))
OWN = os.path.join(ROOT, "tests")
SHARED = os.path.join(os.path.dirname(ROOT), "shared", "tests")


def folders_with_tests(top):
    """The folders from top on down that have a file test_*.py."""
    found = []
    for folder, inner, files in os.walk(top):
        inner.sort()
        if [name for name in files if name.startswith("test_") and name.endswith(".py")]:
            found.append(folder)
    return found


def run_here(folder, told):
    """Runs the tests of one folder and writes the numbers to a file."""
    sys.path[:0] = [ROOT]
    suite = unittest.TestSuite()
    for name in sorted(os.listdir(folder)):
        if name.startswith("test_") and name.endswith(".py"):
            suite.addTests(unittest.TestLoader().discover(folder, pattern=name, top_level_dir=folder))
    result = unittest.TextTestRunner(verbosity=1).run(suite)
    # A test fails once, however many of its parts do; what fails ahead of a test counts as one more.
    failed = {str(getattr(test, "test_case", test)) for test, _ in result.failures + result.errors}
    failed |= {str(test) for test in result.unexpectedSuccesses}
    passed = result.testsRun - len(result.skipped) - len(failed)
    with open(told, "w", encoding="utf-8") as file:
        json.dump([max(passed, 0), len(failed), len(result.skipped)], file)


def run_apart(folder):
    """The numbers of a folder: passed, failed, skipped. A run that breaks off has failed."""
    with tempfile.TemporaryDirectory() as place:
        told = os.path.join(place, "told")
        print(f"tests of {os.path.relpath(folder, ROOT)}", flush=True)
        ended = subprocess.run([sys.executable, os.path.abspath(__file__), folder, told], cwd=ROOT, check=False)
        if ended.returncode != 0 or not os.path.exists(told):
            return [0, 1, 0]
        with open(told, encoding="utf-8") as file:
            return json.load(file)


def main():
    numbers = [run_apart(folder) for folder in folders_with_tests(OWN) + folders_with_tests(SHARED)]
    passed, failed, skipped = [sum(column) for column in zip(*numbers)]
    print(f"{passed} passed, {failed} failed" + (f", {skipped} skipped" if skipped else ""))
    return 0 if passed and not failed else 1


if __name__ == "__main__":
    if len(sys.argv) == 3:
        run_here(sys.argv[1], sys.argv[2])
    else:
        sys.exit(main())
