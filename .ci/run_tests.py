"""Run every test_*.py under the folders named, and fail if one test fails."""

import importlib.util
import pathlib
import sys
import unittest


def tests_of(path, number):
    # Files of two folders may bear one name, so each is loaded under a name of its own.
    name = f"file_{number}_{path.stem}"
    spec = importlib.util.spec_from_file_location(name, path)
    module = importlib.util.module_from_spec(spec)
    sys.modules[name] = module
    spec.loader.exec_module(module)
    return unittest.TestLoader().loadTestsFromModule(module)


def files_under(folder):
    if not pathlib.Path(folder).is_dir():
        sys.exit(f"no folder {folder}")
    return sorted(pathlib.Path(folder).rglob("test_*.py"))


def main(folders):
    sys.path.insert(0, str(pathlib.Path.cwd()))
    suite = unittest.TestSuite()
    for folder in folders:
        files = files_under(folder)
        for path in files:
            suite.addTests(tests_of(path, len(sys.modules)))
        print(f"{folder}: {len(files)} files", flush=True)
    result = unittest.TextTestRunner(stream=sys.stdout).run(suite)
    # Several parts of one test may fail; it counts once.
    failed = [getattr(test, "test_case", test) for test, text in result.failures + result.errors]
    bad = len({str(test) for test in failed + result.unexpectedSuccesses})
    skipped = len(result.skipped)
    print(f"{result.testsRun - bad - skipped} passed, {bad} failed, {skipped} skipped")
    return 0 if result.wasSuccessful() and result.testsRun > 0 else 1


sys.exit(main(sys.argv[1:]))
