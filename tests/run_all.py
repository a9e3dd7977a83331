"""Runs every test beside this file and every test in ../shared/tests; ends with 1 if one fails.

With a folder as its argument it runs the tests of this folder alone.
"""

import os
import subprocess
import sys
import unittest

HERE = os.path.dirname(os.path.abspath(__file__))
TOP = os.path.dirname(HERE)
SHARED = os.path.join(os.path.dirname(TOP), "shared", "tests")


def folders_with_tests(top):
    found = []
    for folder, _, files in os.walk(top):
        if any(name.startswith("test_") and name.endswith(".py") for name in files):
            found.append(folder)
    return sorted(found)


def run_folder(folder):
    sys.path.insert(0, TOP)
    suite = unittest.TestLoader().discover(folder, top_level_dir=folder)
    outcome = unittest.TextTestRunner(stream=sys.stdout).run(suite)
    failed = len(outcome.failures) + len(outcome.errors) + len(outcome.unexpectedSuccesses)
    print(f"{outcome.testsRun - failed} passed, {failed} failed", flush=True)
    return 0 if outcome.wasSuccessful() and outcome.testsRun > 0 else 1


def run_all():
    # Each folder gets a process of its own, so that two test files of one name do not meet.
    codes = []
    for folder in [HERE] + folders_with_tests(SHARED):
        codes.append(subprocess.run([sys.executable, os.path.abspath(__file__), folder], cwd=TOP).returncode)
    return 1 if any(codes) else 0


if __name__ == "__main__":
    sys.exit(run_folder(sys.argv[1]) if len(sys.argv) > 1 else run_all())
