"""The form of the code: the package keeps ../shared/LANGUAGE.md, and the checks notice code that does not."""

import ast
import pathlib
import tempfile
import unittest
import warnings

from tests.language import File, breaks, check_folder, check_package, package_files

INTERFACE = {
    "limits.py": (
        "MOST_FEES MOST_TIERS MOST_FROM MOST_INCLUDED MOST_CARRY MOST_ROW MOST_STREAK_USE MOST_MONEY MOST_RUNS "
        "MOST_RUN_USES MOST_TIMES MOST_PERIODS START"
    ),
    "errors.py": (
        "FormError InvalidFees InvalidIncluded InvalidCarry InvalidLeast InvalidMost InvalidStreak NotAPlan "
        "InvalidState InvalidUse InvalidBound InvalidAmount InvalidPeriod InvalidUnits InvalidLine InvalidTiers "
        "InvalidUses InvalidRuns InvalidRow InvalidDeed InvalidText "
        "StateError NoPlans NothingToSend NothingToUndo NoUse NegativeUse OverLimit"
    ),
    "plans.py": "Plan",
    "billing.py": "bill after lines tail",
    "histories.py": "bills total state_after long_run",
    "states.py": "states apart alike classes",
    "leads.py": "lead never_ahead needless",
    "thrift.py": "thrift is_thrifty",
    "backwards.py": "uses_for greatest_use",
    "choosing.py": "row_cost cheapest",
    "accounts.py": "Account LimitedAccount NotedAccount NotedLimitedAccount",
    "checker.py": "accepts",
    "certificates.py": "certify_lead certify_alike certify_thrift certify_cheapest",
    "console.py": "Console",
}
# The methods that the interface lists for each class.
METHODS = {
    "Plan": "__init__ read __str__ __repr__ __eq__ __ne__",
    "Account": "__init__ enter send change_plan do do_all tried undo rebilled",
    "LimitedAccount": "__init__ set_limit",
    "NotedAccount": "__init__ notes",
    "NotedLimitedAccount": "__init__ set_limit notes",
    "Console": "__init__ say",
}

# Each text breaks the rule in front of it.
BREAKS = (
    ("L2", "from os import path\n"),
    ("L2", "from .limits import START\n"),
    ("L2", "from everybill.limits import *\n"),
    ("L2", "ONE = 1\nfrom everybill.limits import START\n"),
    ("L16", "import everybill\n"),
    ("L3", "print(1)\n"),
    ("L3", "ONE, TWO = 1, 2\n"),
    ("L3", "ONE = len('a')\n"),
    ("L15", "ONE = 1\nONE = 2\n"),
    ("L4", "def one(a, /):\n    return a\n"),
    ("L4", "def one(a=[]):\n    return a\n"),
    ("L5", "@sorted\nclass One:\n    def one(self):\n        return 1\n"),
    ("L6", "def one():\n    global ONE\n"),
    ("L6", "def one(a):\n    a == 1\n"),
    ("L6", "def one(a):\n    return a / 2\n"),
    ("L7", "def one(a):\n    return a * 0.5\n"),
    ("L7", "def one(a):\n    return all(b for b in a)\n"),
    ("L8", "def one(a):\n    return hash(a)\n"),
    ("L10", "def one(a):\n" + "    a = 1\n" * 40),
    ("L10", "# one\n" * 400),
    ("L10", "# " + "x" * 119 + "\n"),
    ("L12", "def one():\n    for _ in (1,):\n        pass\n"),
    ("L12", "def _one():\n    return 1\n"),
    ("L12", "def one(a):\n    return a._b\n"),
    ("L12", "class One:\n    def __hash__(self):\n        return 1\n"),
    ("L14", "# \u00e9\n"),
    ("L14", "def one():\n\treturn 1\n"),
    ("L15", "from everybill.limits import START\n\n\ndef one(START):\n    return START\n"),
    ("L15", "def one(sum):\n    return 1\n"),
    ("L15", "def one():\n    next = 1\n    return next\n"),
    ("L17", "# This is a " + "ty" + "pe.\n"),
    ("L18", "class One:\n    def a(self):\n        pass\n\n    def a(self):\n        pass\n"),
    ("L19", "def one():\n    raise ValueError\n"),
    ("L19", "def one(a):\n    raise a()\n"),
    ("L19", "def one(a):\n    try:\n        a()\n    except Exception:\n        pass\n"),
    ("L20", "def one(a, b):\n    return a is b\n"),
    ("L23", "def one(a):\n    b = zip(a, a)\n    return list(b)\n"),
    ("L25", "def one(a):\n    return a.format(1)\n"),
    ("L26", "def one(a):\n    a.items = 1\n"),
    ("L27", "def one(a):\n    return 'a%s'\n"),
    ("L27", "def one(a):\n    return '\\x41'\n"),
    ("L27", "def one(a):\n    return 2 ** a\n"),
    ("L28", "class One:\n    def __init__(self):\n        return None\n"),
    ("L28", "class One:\n    def __str__(self):\n        return self.a\n"),
    ("L28", "class One:\n    def __eq__(self, other):\n        self.a = 1\n        return True\n"),
    ("L23", "def one(a):\n    yield 1\n    return a\n"),
    ("L23", "def one(a):\n    b = yield a\n"),
    ("L23", "def one(a):\n    yield a\n\n\ndef two(a):\n    return one(a)\n"),
    ("L23", "def one(a):\n    yield a\n\n\ndef two(a):\n    return a(one)\n"),
    ("L23", "def one(a):\n    try:\n        yield a\n    except KeyError:\n        pass\n"),
    ("L23", "def one(a):\n    for b in a:\n        a.append(b)\n"),
    ("L23", "def one(a):\n    for b in list(a):\n        pass\n    for b, c in a.items():\n        a[b] = 1\n"),
    ("L23", "def one(a):\n    for b, c in enumerate(a):\n        del a[b]\n"),
    ("L23", "def one(a):\n    for b in a:\n        a += [b]\n"),
    ("L24", "def one(a):\n    for b in set(a):\n        pass\n"),
    ("L24", "def one(a):\n    return set(a)\n"),
    ("L24", "def one(a):\n    b = set(a)\n    return b\n"),
    ("L24", "def one(a):\n    b = set(a)\n    return [c for c in b]\n"),
    ("L24", "def one(a):\n    b = set(a)\n    b = {c for c in a}\n    return len(b)\n"),
    ("L24", "def one(a):\n    b = set(a)\n    b.update(a)\n"),
    ("L24", "def one(a):\n    return list({c for c in a})\n"),
    ("L5", "def one(a):\n    yield a\n\n\ndef two(a):\n    return sum(one(a))\n"),
    ("L25", "def one(a):\n    a.sort()\n"),
    ("L7", "ONE = [a for a in (1, 2)]\n"),
    ("L6", "def one(a):\n    try:\n        a()\n    finally:\n        a()\n"),
    ("L6", "def one(a):\n    try:\n        a()\n    finally:\n        a.b = a[0]\n"),
    ("L6", "def one(a):\n    try:\n        b = a()\n    finally:\n        a.b = b\n"),
    ("L6", "def one(a):\n    b = a.b\n    try:\n        a()\n    finally:\n        a.b, a.c = b\n"),
    ("L6", "def one(a):\n    try:\n        a()\n    finally:\n        if a.b:\n            a.b = None\n"),
    ("L5", "class One:\n    def a(self):\n        return super().b\n"),
    ("L5", "class One:\n    def a(self):\n        return [super().a() for b in self.b]\n"),
    ("L5", "class One:\n    def a(self):\n        return super(One, self).a()\n"),
)
# None of these breaks a rule.
KEPT = (
    "def one(a):\n    for b in a:\n        yield b\n\n\ndef two(a):\n    for b in one(a):\n        a(b)\n",
    "def one(a):\n    yield a\n\n\ndef two(a):\n    return list(one(a))\n",
    "def one(a):\n    b = set()\n    for c in a:\n        if c not in b:\n            b.add(c)\n    return sorted(b)\n",
    "def one(a):\n    return sorted(set(a)), len({b for b in a})\n",
    "def one(a):\n    for b in list(a):\n        a.append(b)\n",
    "def one(a):\n    b, c = a.b, a.c\n    try:\n        a()\n    finally:\n        a.b, a.c = b, c\n        a.d = None\n",
    "class One:\n    def one(self):\n        return super().one()\n",
)


def rules_of(found):
    return {told.split(" ")[0] for told in found}


class PackageTest(unittest.TestCase):
    def test_no_file_breaks_a_rule(self):
        for file in package_files():
            with self.subTest(file.name):
                self.assertEqual(breaks(file), [])

    def test_python_gives_no_warning(self):
        with warnings.catch_warnings():
            warnings.simplefilter("error")
            for file in package_files():
                compile(file.text, file.name, "exec")

    def test_the_folder_and_its_imports_keep_the_rules(self):
        self.assertEqual(list(check_folder()), [])
        self.assertEqual(list(check_package(package_files())), [])

    def test_what_the_interface_lists_is_defined_in_its_file(self):
        files = {file.name: file for file in package_files()}
        for name, wanted in INTERFACE.items():
            body = files[name].tree.body
            found = {node.name for node in body if isinstance(node, (ast.ClassDef, ast.FunctionDef))}
            found |= {node.targets[0].id for node in body if isinstance(node, ast.Assign)}
            with self.subTest(name):
                self.assertEqual(set(wanted.split()) - found, set())

    def test_the_methods_that_the_interface_lists_stand_in_their_class(self):
        found = {}
        for file in package_files():
            for node in file.tree.body:
                if isinstance(node, ast.ClassDef):
                    found[node.name] = {part.name for part in node.body if isinstance(part, ast.FunctionDef)}
        for name, wanted in METHODS.items():
            with self.subTest(name):
                self.assertEqual(set(wanted.split()) - found[name], set())


class ChecksTest(unittest.TestCase):
    def test_code_that_breaks_a_rule_is_noticed(self):
        for rule, text in BREAKS:
            with self.subTest(rule, text=text[:60]):
                self.assertIn(rule, rules_of(breaks(File("one.py", text, known={"one"}, generators={"one"}))))

    def test_code_that_breaks_no_rule_is_not_noticed(self):
        for text in KEPT:
            with self.subTest(text):
                self.assertEqual(breaks(File("one.py", text, known={"one", "two"})), [])

    def test_other_files_in_the_folder_are_noticed(self):
        for name in ("notes.txt", "Big.py", "a-b.py", "test_one.py", "sum.py"):
            with self.subTest(name), tempfile.TemporaryDirectory() as folder:
                place = pathlib.Path(folder)
                (place / "__init__.py").write_text("")
                self.assertEqual(list(check_folder(place)), [])
                (place / name).write_text("")
                self.assertNotEqual(list(check_folder(place)), [])

    def test_circles_and_names_from_other_files_are_noticed(self):
        one = File("one.py", "from everybill.two import b\n\n\ndef a():\n    return b()\n")
        two = File("two.py", "from everybill.one import a\n\n\ndef b():\n    return a()\n")
        three = File("three.py", "from everybill.one import b\n")
        four = File("four.py", "class Four:\n    def a(self):\n        self.a = 1\n")
        self.assertEqual(len(list(check_package([one, two]))), 1)
        self.assertEqual(len(list(check_package([File("one.py", "def a():\n    return 1\n"), three]))), 1)
        self.assertEqual(rules_of(check_package([four])), {"L18"})


if __name__ == "__main__":
    unittest.main()
