import pathlib
import re
import unittest

import language

PACKAGE = pathlib.Path(__file__).resolve().parent.parent / "sideturn"

BROKEN = (
    ("import sys\n", "L6"),
    ("from os import path\n", "L2"),
    ("from .words import is_name\n", "L2"),
    ("def f(*xs):\n    return xs\n", "L4"),
    ("def f(x):\n    with x:\n        pass\n", "L6"),
    ("def f(x):\n    del x\n", "L6"),
    ("def f(x):\n    a = b = x\n", "L6"),
    ("def f(x):\n    return x / 2\n", "L7"),
    ("def f(x):\n    return {a for a in x}\n", "L7"),
    ("def f(x):\n    return 1.5\n", "L7"),
    ("def f(x):\n    return open(x)\n", "L8"),
    ("def f(x):\n    return map(x, x)\n", "L8"),
    ("def f(_x):\n    return 1\n", "L12"),
    ("def f():\n    return '\u00e4'\n", "L14"),
    ("def f(min):\n    return 1\n", "L15"),
    ("XS = [[1]]\n", "L15"),
    ("XS = [1]\n\n\ndef f():\n    XS.append(1)\n", "L15"),
    ("# the type of it\n", "L17"),
    ("def f(x):\n    raise x\n", "L19"),
    ("def f(x):\n    try:\n        f(x)\n    except ValueError:\n        pass\n", "L19"),
    ("def f(x):\n    return x is f\n", "L20"),
    ("def f(x: int):\n    return x\n", "L21"),
    ("def f(x):\n    return zip(x, x)\n", "L23"),
    ("def f(x):\n    for a in x:\n        x.append(a)\n", "L23"),
    ("def f(x):\n    y = set(x)\n    return y\n", "L24"),
    ("def f(x):\n    return x.casefold()\n", "L25"),
    ("def f(x):\n    return x % '%s'\n", "L27"),
    ("def f(x):\n    return 2 ** x\n", "L27"),
    ("X = 1\n" * 2, "L15"),
    ("def f():\n" + "    f()\n" * 40, "L10"),
    ("# " + "x" * 120 + "\n", "L10"),
)


class Language(unittest.TestCase):
    def setUp(self):
        self.texts = {path.stem: path.read_text("utf-8") for path in sorted(PACKAGE.glob("*.py"))}

    def test_the_rules_are_seen_when_broken(self):
        for text, rule in BROKEN:
            self.assertIn(rule, [fault[0] for fault in language.faults_of_file(text, "sideturn", ())], msg=text)

    def test_each_file_keeps_to_the_rules(self):
        methods = language.methods_and_values(self.texts.values())[0]
        for name, text in self.texts.items():
            self.assertEqual(language.faults_of_file(text, "sideturn", methods), [], msg=name)

    def test_only_plainly_named_files_lie_in_the_package(self):
        for path in PACKAGE.iterdir():
            if path.name != "__pycache__":
                self.assertTrue(path.is_file())
                self.assertTrue(path.name == "__init__.py" or re.fullmatch("[a-z][a-z0-9_]*[.]py", path.name))
        self.assertIn("__init__", self.texts)

    def test_each_name_is_drawn_from_the_file_that_defines_it(self):
        for name, text in self.texts.items():
            for drawn, module in language.drawn_from(text).items():
                self.assertIn(drawn, language.defined_in(self.texts[module.split(".")[1]]), msg=name)

    def test_no_two_files_draw_from_one_another(self):
        behind = {name: {module.split(".")[1] for module in language.drawn_from(text).values()}
                  for name, text in self.texts.items()}
        while behind:
            free = [name for name in behind if not behind[name] & set(behind)]
            self.assertTrue(free, msg=f"drawn in a ring: {sorted(behind)}")
            behind = {name: drawn for name, drawn in behind.items() if name not in free}

    def test_no_name_is_a_method_and_a_value(self):
        methods, values = language.methods_and_values(self.texts.values())
        self.assertEqual(methods & values, set())
