"""Runs each test_*.py under tests and under ../shared/tests, and says how many passed and failed."""

import importlib.util
import pathlib
import sys
import unittest

ROOT = pathlib.Path(__file__).resolve().parent.parent
FOLDERS = (ROOT / "tests", ROOT.parent / "shared" / "tests")


def test_files():
    return [path for folder in FOLDERS for path in sorted(folder.rglob("test_*.py"))]


def failing_test(path, error):
    def fails_to_load():
        raise error

    return unittest.FunctionTestCase(fails_to_load, description=f"{path} cannot be loaded")


def tests_of(path, number):
    # Files of both folders may have one name, so each is loaded under a name of its own.
    name = f"{path.stem}_{number}"
    spec = importlib.util.spec_from_file_location(name, path)
    module = importlib.util.module_from_spec(spec)
    sys.modules[name] = module
    if str(path.parent) not in sys.path:
        sys.path.append(str(path.parent))
    try:
        spec.loader.exec_module(module)
    except (Exception, SystemExit) as error:
        return failing_test(path, error)
    return unittest.defaultTestLoader.loadTestsFromModule(module)


def main():
    sys.path.insert(0, str(ROOT))
    suite = unittest.TestSuite()
    for number, path in enumerate(test_files()):
        suite.addTest(tests_of(path, number))
    print("Python " + sys.version.split()[0], flush=True)
    many = suite.countTestCases()
    result = unittest.TextTestRunner(stream=sys.stdout).run(suite)
    bad = result.failures + result.errors
    # Parts of one test may fail one by one, so the tests are counted, not the failures.
    failed = len({str(getattr(test, "test_case", test)) for test, told in bad}) + len(result.unexpectedSuccesses)
    skipped = len(result.skipped)
    print(f"{many - failed - skipped} passed, {failed} failed" + (f", {skipped} skipped" if skipped else ""))
    return 0 if many > 0 and result.wasSuccessful() else 1


if __name__ == "__main__":
    sys.exit(main())
