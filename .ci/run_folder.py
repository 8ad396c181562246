"""Runs the tests of the folder that it is started in; fails where one fails, or where there is none."""

import os
import sys
import unittest


def main():
    suite = unittest.defaultTestLoader.discover(os.getcwd(), pattern="test_*.py")
    result = unittest.TextTestRunner(verbosity=1).run(suite)
    failed = len(result.failures) + len(result.errors) + len(result.unexpectedSuccesses)
    skipped = len(result.skipped)
    passed = max(0, result.testsRun - failed - skipped)
    print(f"{passed} passed, {failed} failed, {skipped} skipped", flush=True)
    return 0 if result.wasSuccessful() and result.testsRun > 0 else 1


if __name__ == "__main__":
    sys.exit(main())
