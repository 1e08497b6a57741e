"""Runs every test_*.py of one folder: python3 .ci/suite.py LABEL FOLDER."""

import os
import sys
import unittest


def failed_tests(result):
    cases = [case for case, _ in result.failures + result.errors] + result.unexpectedSuccesses
    # Parts of one test may fail one by one; it is one test that fails.
    return len({getattr(case, "test_case", case).id() for case in cases})


def main(label, folder):
    # The package stands at the top of the repository, which is where this runs.
    sys.path.insert(0, os.getcwd())
    suite = unittest.TestLoader().discover(folder, pattern="test_*.py", top_level_dir=folder)
    result = unittest.TextTestRunner(stream=sys.stdout).run(suite)
    failed = failed_tests(result)
    skipped = len(result.skipped)
    passed = max(0, result.testsRun - failed - skipped)
    print(f"{label} {passed} passed, {failed} failed, {skipped} skipped", flush=True)
    return 0 if result.wasSuccessful() and passed > 0 else 1


if __name__ == "__main__":
    sys.exit(main(sys.argv[1], sys.argv[2]))
