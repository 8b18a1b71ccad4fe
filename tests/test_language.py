"""The package keeps to the rules of LANGUAGE.md, as far as its files' shape shows it."""

import pathlib
import re
import sys
import unittest

HERE = pathlib.Path(__file__).resolve().parent
sys.path.insert(0, str(HERE))

from language import PACKAGE, defined_in, drawn_from, faults_of, methods_of, values_of  # noqa: E402

FOLDER = HERE.parent / PACKAGE
GOOD = '"""Why."""\n\nfrom inkyears.words import is_name\n\nMOST = 3\n\n\ndef told(word):\n    return word[0:MOST]\n'
BAD = [
    ("L2", "from . import words\n"),
    ("L2", "from os import path\n"),
    ("L3", "MOST = len('abc')\n"),
    ("L4", "def told(*words):\n    return words\n"),
    ("L5", "class Some(ValueError):\n    most = 3\n"),
    ("L6", "def told(some):\n    for one in some:\n        pass\n    else:\n        return one\n"),
    ("L6", "def told(some):\n    some\n"),
    ("L6 or L7", "import os\n"),
    ("L6 or L7", "def told(one, other):\n    return one / other\n"),
    ("L6 or L7", "def told(some):\n    return sum(one for one in some)\n"),
    ("L6 or L7", "def told(some):\n    assert some\n"),
    ("L7", "def told(some):\n    return 1.5\n"),
    ("L7", "def told(some):\n    return [one for part in some for one in part]\n"),
    ("L8", "def told(some):\n    return round(some)\n"),
    ("L10", "def told(some):\n" + "    some = some + 1\n" * 40),
    ("L10", "MOST = '" + "a" * 120 + "'\n"),
    ("L12", "def told(_some):\n    return 1\n"),
    ("L14", "MOST = 3\t\n"),
    ("L15", "MOST = 3\nMOST = 4\n"),
    ("L15", "def told(id):\n    return 1\n"),
    ("L15", "def told(some):\n    max = some\n    return 1\n"),
    ("L15", "from inkyears.nets import settled\n\n\ndef told(settled):\n    return 1\n"),
    ("L15", "from inkyears.nets import settled\n\n\ndef told(some):\n    settled = some\n    return 1\n"),
    ("L15", "TABLES = [[1], [2]]\n"),
    ("L15", "TABLES = {'a': ([1], 2)}\n"),
    ("L17", "# a type of ink\n"),
    ("L17", "def told(some):\n    return some.open\n"),
    ("L18", "from inkyears.errors import NoAge\n\n\ndef told(some):\n    return [NoAge]\n"),
    ("L18", "class Some:\n    pass\n\n\ndef told(some):\n    return some(Some)\n"),
    ("L19", "def told(some):\n    try:\n        return some\n    except Exception:\n        return 1\n"),
    ("L20", "def told(some):\n    return some is 3\n"),
    ("L20", "def told(some, other):\n    return some is not other\n"),
    ("L21", "def told(some: int):\n    return some\n"),
    ("L22", "def told(some):\n    kept = len\n    return kept(some)\n"),
    ("L23", "def told(some):\n    kept = range(some)\n    return kept\n"),
    ("L23", "def told(some):\n    return len(some.items())\n"),
    ("L23", "def told(some):\n    for one in some:\n        some.append(one)\n"),
    ("L23", "def told(some):\n    for one in some:\n        some[0] = one\n"),
    ("L24", "def told(some):\n    return set(some)\n"),
    ("L24", "def told(some):\n    for one in {1, 2}:\n        some.append(one)\n"),
    ("L26", "class Some:\n    def __init__(self):\n        self.items = 3\n"),
    ("L25", "def told(some):\n    return some.title()\n"),
    ("L27", "def told(n):\n    return 2 ** n\n"),
    ("L27", "MOST = '%'\n"),
]


def texts():
    return {path.stem: path.read_text(encoding="ascii") for path in sorted(FOLDER.glob("*.py"))}


class LanguageTest(unittest.TestCase):
    def test_the_reader_sees_faults(self):
        self.assertEqual(faults_of(GOOD), [])
        for rule, text in BAD:
            with self.subTest(rule=rule, text=text):
                self.assertIn(rule, [fault[0] for fault in faults_of(text)])

    def test_files(self):
        names = [path.name for path in FOLDER.iterdir() if path.name != "__pycache__"]
        self.assertIn("__init__.py", names)
        for name in names:
            self.assertTrue(re.fullmatch("[a-z][a-z0-9_]*[.]py|__init__[.]py|__main__[.]py", name), name)

    def test_no_file_leaves_the_rules(self):
        own = [name for text in texts().values() for name in methods_of(text)]
        for name, text in texts().items():
            with self.subTest(name=name):
                self.assertEqual(faults_of(text, own), [])

    def test_no_name_is_a_method_and_a_value(self):
        methods = {name for text in texts().values() for name in methods_of(text)}
        values = {name for text in texts().values() for name in values_of(text)}
        self.assertEqual(methods & values, set())

    def test_names_are_drawn_from_where_they_are_defined(self):
        for text in texts().values():
            for module, name in drawn_from(text):
                self.assertIn(name, defined_in(texts()[module.split(".")[1]]))

    def test_no_two_files_draw_from_one_another(self):
        left = {name: {module.split(".")[1] for module, _ in drawn_from(text)} for name, text in texts().items()}
        while left:
            free = [name for name in left if not left[name] & set(left)]
            self.assertTrue(free, left)
            left = {name: left[name] for name in left if name not in free}


if __name__ == "__main__":
    unittest.main()
