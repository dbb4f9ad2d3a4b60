"""Runs the tests of one folder as python3 -m unittest does, and fails if one fails or if there is none.

Usage: python3 .ci/run_tests.py FOLDER TOP (TOP: the folder that its modules are imported from)
"""

import os
import sys
import unittest

folder, top = sys.argv[1:]
sys.path.insert(0, os.getcwd())
suite = unittest.TestLoader().discover(folder, pattern="test_*.py", top_level_dir=top)
result = unittest.TextTestRunner(stream=sys.stdout).run(suite)
# Of one test several parts may fail.
bad = [getattr(test, "test_case", test).id() for test, _ in result.failures + result.errors]
bad += [test.id() for test in result.unexpectedSuccesses]
failed = len(set(bad))
passed = max(0, result.testsRun - failed)
print(f"{passed} passed, {failed} failed")
sys.exit(1 if failed or not result.testsRun else 0)
