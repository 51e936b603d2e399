"""Runs each test file in a process of its own, and counts the tests of all of them.

Two folders may have files of one name, and a file that ends its process must not end the others.
"""

import json
import pathlib
import subprocess
import sys
import tempfile
import unittest

TOP = pathlib.Path(__file__).resolve().parent.parent
OWN = TOP / "tests"
SHARED = TOP.parent / "shared" / "tests"


def run_file(path, told):
    """Runs the tests of this file; writes what it counted to the file told."""
    sys.path[:0] = [str(path.parent), str(TOP)]
    suite = unittest.defaultTestLoader.loadTestsFromName(path.stem)
    result = unittest.TextTestRunner(stream=sys.stdout, verbosity=1).run(suite)
    bad = result.failures + result.errors
    # a failed part of a test counts as this test
    failed = {getattr(test, "test_case", test).id() for test, _ in bad}
    failed |= {test.id() for test in result.unexpectedSuccesses}
    # what fails ahead of the tests of a class or a file is no test that was run, but it failed
    ahead = {test.id() for test, _ in bad if isinstance(test, unittest.suite._ErrorHolder)}
    skipped = {getattr(test, "test_case", test).id() for test, _ in result.skipped} - failed
    passed = max(0, result.testsRun - len(failed - ahead) - len(skipped))
    told.write_text(json.dumps([passed, len(failed)]))


def counted(path, folder):
    """Runs this file in a process of its own; returns how many tests passed and failed."""
    print(f"== {path.relative_to(TOP.parent)}", flush=True)
    told = pathlib.Path(folder) / "told"
    told.unlink(missing_ok=True)
    subprocess.run([sys.executable, "-B", __file__, str(path), str(told)], cwd=TOP, check=False)
    if not told.exists():
        print("ended without telling what it counted", flush=True)
        return 0, 1
    passed, failed = json.loads(told.read_text())
    return passed, failed


def run_all():
    own = sorted(OWN.rglob("test_*.py"))
    shared = sorted(SHARED.rglob("test_*.py")) if SHARED.is_dir() else []
    passed, failed = 0, 0
    with tempfile.TemporaryDirectory() as folder:
        for path in own + shared:
            counts = counted(path, folder)
            passed, failed = passed + counts[0], failed + counts[1]
    if passed + failed == 0:
        print("no test was run")
    print(f"{passed} passed, {failed} failed", flush=True)
    return 0 if failed == 0 and passed > 0 else 1


if __name__ == "__main__":
    if len(sys.argv) == 3:
        run_file(pathlib.Path(sys.argv[1]), pathlib.Path(sys.argv[2]))
    else:
        sys.exit(run_all())
