"""Run the test_*.py files of one folder with unittest; fail also if there is no test.

python3 tools/run_tests.py FOLDER [TOP]: TOP is the folder from which the tests are imported,
FOLDER itself if it is not told.
"""

import sys
import unittest


def main(argv):
    folder = argv[1]
    top = argv[2] if len(argv) > 2 else folder
    suite = unittest.TestLoader().discover(folder, pattern="test_*.py", top_level_dir=top)
    result = unittest.TextTestRunner(stream=sys.stdout, verbosity=1).run(suite)
    failed = len(result.failures) + len(result.errors) + len(result.unexpectedSuccesses)
    skipped = len(result.skipped)
    passed = result.testsRun - failed - skipped
    print(f"{passed} passed, {failed} failed, {skipped} skipped")
    if passed < 1:
        print(f"no test of {folder} has passed")
    return 0 if failed == 0 and passed > 0 else 1


if __name__ == "__main__":
    sys.exit(main(sys.argv))
