"""Finds code of the package outside ../shared/LANGUAGE.md, as far as the form of single files shows it.

Each check takes a file (its name, text, tree and the names of the package) and gives strings `RULE NAME:LINE what`.
"""

import ast
import builtins
import keyword
import pathlib
import re
import sys

from tests.language_loops import MORE_CHECKS, is_generator
from tests.language_tries import TRY_CHECKS

PACKAGE = "everybill"
FOLDER = pathlib.Path(__file__).resolve().parent.parent / PACKAGE

BUILTINS = set(
    "len range enumerate zip min max sum abs sorted reversed int str bool list tuple dict set frozenset isinstance ord "
    "repr any all divmod Exception ValueError TypeError KeyError IndexError LookupError ZeroDivisionError "
    "ArithmeticError OverflowError RuntimeError NotImplementedError AttributeError StopIteration NotImplemented "
    "iter next super property staticmethod classmethod bytes".split()
)
GIVEN = {name for name in dir(builtins) if not name.startswith("_")}
METHODS = set(
    "append clear copy count endswith extend find get index insert isalnum isalpha isdigit islower isspace isupper "
    "items join keys ljust lower lstrip partition pop remove replace reverse rfind rjust rpartition rsplit rstrip "
    "setdefault split splitlines startswith strip update upper values zfill bit_length title capitalize swapcase "
    "casefold center expandtabs removeprefix removesuffix rindex isascii isdecimal isnumeric istitle isidentifier "
    "isprintable add discard translate".split()
)
DUNDERS = set(
    "init eq repr str len enter exit call iter lt le gt ge ne add sub mul floordiv mod pow and or xor lshift rshift "
    "radd rsub rmul rfloordiv rmod rand ror rxor rlshift rrshift iadd isub imul ifloordiv imod ipow iand ior ixor "
    "ilshift irshift neg pos invert abs bool contains getitem setitem".split()
)
BARRED_WORDS = re.compile(
    r"\b(type|typing|typing_extensions|enum|Enum|IntEnum|StrEnum|Flag|IntFlag|Generic|Protocol|ABC|ABCMeta|namedtuple"
    r"|NamedTuple|TypedDict|TYPE_CHECKING|abstractmethod)\b|dataclass|overload|contextmanager"
)
BARRED_NAMES = set(
    "register mro elements open input law version_info with_traceback add_note attrgetter breakpoint builtins compile "
    "copyright credits delattr dir eval exec exit gc getattr globals hasattr help id importlib license locals "
    "methodcaller os quit setattr type vars sys chr print".split()
)
BARRED_ATTRIBUTES = set(
    "register mro elements open input law version_info with_traceback add_note format format_map items keys values pop "
    "update append clear extend insert remove reverse setdefault sort args encode decode hex fromhex is_integer "
    "as_integer_ratio bit_count conjugate from_bytes to_bytes".split()
)
STATEMENTS = (
    ast.Assign, ast.AugAssign, ast.AnnAssign, ast.If, ast.While, ast.For, ast.Return, ast.Break, ast.Continue, ast.Pass,
    ast.Raise, ast.Assert, ast.Delete, ast.Nonlocal, ast.Match, ast.With, ast.Expr, ast.Try, ast.FunctionDef,
    ast.ClassDef, ast.ImportFrom,
)
CATCHABLE = {"KeyError", "ZeroDivisionError", "StopIteration", "ValueError", "LookupError", "IndexError"}
FUNCTIONS = (ast.FunctionDef, ast.Lambda)
LAZY = {"zip", "enumerate", "reversed", "range"}


class File:
    """A file of the package: `known` are the names of all own functions, classes and methods."""

    def __init__(self, name, text, known=(), errors=(), generators=()):
        self.name = name
        self.text = text
        self.tree = ast.parse(text)
        self.nodes = list(ast.walk(self.tree))
        self.known = set(known)
        self.errors = set(errors)
        self.generators = set(generators)

    def told(self, rule, node, what):
        """Return the line that tells of a break of a rule at this node or in this line."""
        line = node if isinstance(node, int) else getattr(node, "lineno", 0)
        return f"{rule} {self.name}:{line} {what}"


def named(node):
    """Return the name that is called, or None."""
    if isinstance(node, ast.Call) and isinstance(node.func, ast.Name):
        return node.func.id
    return None


def bound_names(nodes):
    """Return the pairs (NODE, NAME) of everything that is given a name."""
    pairs = []
    for node in nodes:
        if isinstance(node, ast.Name) and not isinstance(node.ctx, ast.Load):
            pairs.append((node, node.id))
        elif isinstance(node, (ast.FunctionDef, ast.ClassDef)):
            pairs.append((node, node.name))
        elif isinstance(node, ast.arg):
            pairs.append((node, node.arg))
        elif isinstance(node, ast.alias):
            pairs.append((node, node.asname or node.name))
        elif isinstance(node, ast.ExceptHandler) and node.name:
            pairs.append((node, node.name))
        elif isinstance(node, (ast.MatchAs, ast.MatchStar)) and node.name:
            pairs.append((node, node.name))
    return pairs


def check_text(file):
    """L10, L14, L17, L27: sizes, characters, words and escapes."""
    rows = file.text.split("\n")
    if len(rows) - 1 > 399:
        yield file.told("L10", len(rows), "more than 399 lines")
    for at, row in enumerate(rows, start=1):
        if len(row) > 120:
            yield file.told("L10", at, "more than 120 characters")
        if any(not " " <= sign <= "~" for sign in row):
            yield file.told("L14", at, "a character outside of ASCII, or a tab")
        if BARRED_WORDS.search(row):
            yield file.told("L17", at, "a word that is not used")
        if re.search(r"\\[^nt\\'\"]", row):
            yield file.told("L27", at, "another escape")
    for node in file.nodes:
        if isinstance(node, ast.FunctionDef) and node.end_lineno - node.lineno >= 40:
            yield file.told("L10", node, "more than 40 lines")


def check_module(file):
    """L2, L3, L15, L16: what stands at module level."""
    seen = set()
    imports_over = False
    for at, node in enumerate(file.tree.body):
        if at == 0 and isinstance(node, ast.Expr) and isinstance(node.value, ast.Constant):
            continue
        if isinstance(node, ast.ImportFrom):
            if imports_over:
                yield file.told("L2", node, "an import below something else")
        elif isinstance(node, (ast.FunctionDef, ast.ClassDef)):
            imports_over = True
        elif isinstance(node, ast.Assign) and len(node.targets) == 1 and isinstance(node.targets[0], ast.Name):
            imports_over = True
            yield from check_constant(file, node.value, seen)
        else:
            yield file.told("L3", node, "no docstring, import, function, class or plain value")
        for part, name in bound_names([node, *getattr(node, "targets", []), *getattr(node, "names", [])]):
            if name in seen:
                yield file.told("L15", node, f"{name} is bound twice")
            seen.add(name)


def check_constant(file, value, seen):
    """L3: the value of a name at module level."""
    plain = (ast.Constant, ast.Tuple, ast.List, ast.Dict, ast.BinOp, ast.UnaryOp, ast.Name)
    for node in ast.walk(value):
        if isinstance(node, (ast.expr_context, ast.operator, ast.unaryop)):
            continue
        if not isinstance(node, plain) or (isinstance(node, ast.Name) and node.id not in seen):
            yield file.told("L3", node, "no plain value")


def check_imports(file):
    """L2, L16: only names of modules of the package, by full names."""
    for node in file.nodes:
        if isinstance(node, ast.Import):
            yield file.told("L16", node, "no import of the form from .. import ..")
        if isinstance(node, ast.ImportFrom):
            if node.level or not node.module.startswith(PACKAGE + "."):
                yield file.told("L2", node, "an import from outside of the package")
            if node not in file.tree.body:
                yield file.told("L2", node, "an import inside of something")
            if any(part.name == "*" for part in node.names):
                yield file.told("L2", node, "import *")


def check_names(file):
    """L8, L12, L15, L17: names that are given, and builtins that are read."""
    pairs = bound_names(file.nodes)
    methods = {id(part) for node in file.nodes if isinstance(node, ast.ClassDef) for part in node.body}
    for node, name in pairs:
        if name.startswith("_") and not (id(node) in methods and name.strip("_") in DUNDERS and name.endswith("__")):
            yield file.told("L12", node, f"{name} begins with an underscore")
        if not re.fullmatch("[A-Za-z0-9_]+", name):
            yield file.told("L12", node, f"{name} is no plain name")
        if id(node) not in methods and name in GIVEN | BARRED_NAMES:
            yield file.told("L15", node, f"{name} is a name that is not given")
        if id(node) in methods and name in BUILTINS | BARRED_NAMES:
            yield file.told("L8", node, f"{name} is a builtin")
    yield from check_shadows(file)
    own = {name for node, name in pairs}
    for node in file.nodes:
        if isinstance(node, ast.Name) and isinstance(node.ctx, ast.Load) and node.id not in own | BUILTINS:
            yield file.told("L8", node, f"{node.id} is neither an own name nor a builtin that is allowed")
        if isinstance(node, ast.Attribute):
            if node.attr.startswith("_") and node.attr != "__init__":
                yield file.told("L12", node, f"{node.attr} begins with an underscore")
            if isinstance(node.ctx, ast.Store) and node.attr in BARRED_ATTRIBUTES:
                yield file.told("L26", node, f"{node.attr} is the name of a method of a builtin value")


def check_shadows(file):
    """L15: no local name is that of a class or an import of its file."""
    top = [node for node in file.tree.body if isinstance(node, (ast.ClassDef, ast.ImportFrom))]
    taken = {name for node, name in bound_names([*top, *[part for node in top for part in getattr(node, "names", [])]])}
    for function in file.nodes:
        if isinstance(function, FUNCTIONS):
            for node, name in bound_names(list(ast.walk(function))[1:]):
                if name in taken:
                    yield file.told("L15", node, f"{name} is a class or an import of this file")


def check_statements(file):
    """L4, L6, L7, L20: kinds of statements and expressions."""
    barred = (
        ast.Await, ast.AsyncFunctionDef, ast.AsyncFor, ast.AsyncWith, ast.Global, ast.Div, ast.MatMult, ast.MatchClass,
        ast.MatchMapping, ast.TryStar,
    )
    for node in file.nodes:
        if isinstance(node, ast.stmt) and not isinstance(node, STATEMENTS) or isinstance(node, barred):
            yield file.told("L6", node, f"{type(node).__name__} is not used")
        if isinstance(node, ast.Constant) and isinstance(node.value, (float, complex)):
            yield file.told("L7", node, "a float")
        if isinstance(node, ast.GeneratorExp):
            yield file.told("L7", node, "a generator expression beside a class with __eq__; take a list")
        if isinstance(node, ast.arguments) and node.posonlyargs:
            yield file.told("L4", node, "a / among the parameters")
        if isinstance(node, ast.Expr) and not isinstance(node.value, (ast.Call, ast.Yield, ast.YieldFrom)):
            if not (isinstance(node.value, ast.Constant) and isinstance(node.value.value, str)):
                yield file.told("L6", node, "an expression that is no call")
        if isinstance(node, ast.Compare) and any(isinstance(sign, (ast.Is, ast.IsNot)) for sign in node.ops):
            beside = [ast.unparse(part) for part in node.comparators]
            if not set(beside) <= {"None", "True", "False"}:
                yield file.told("L20", node, "is beside something else than None, True and False")


def check_functions(file):
    """L4, L21: decorators, default values and annotations."""
    methods = {id(part) for node in file.nodes if isinstance(node, ast.ClassDef) for part in node.body}
    for node in file.nodes:
        if not isinstance(node, FUNCTIONS):
            continue
        for default in [*node.args.defaults, *[part for part in node.args.kw_defaults if part is not None]]:
            for part in ast.walk(default):
                if isinstance(part, (ast.Call, ast.List, ast.Dict, ast.Set, ast.Subscript, ast.IfExp, ast.Compare)):
                    yield file.told("L4", part, "a default value that is not plain")
        if isinstance(node, ast.FunctionDef):
            if node.decorator_list and id(node) not in methods:
                yield file.told("L4", node, "a decorator")
            for decorator in node.decorator_list:
                if ast.unparse(decorator) not in ("property", "staticmethod", "classmethod", f"{node.name}.setter"):
                    yield file.told("L4", decorator, "another decorator")


def check_classes(file):
    """L5, L18, L19, L28: classes, their bases and their methods."""
    for node in file.nodes:
        if not isinstance(node, ast.ClassDef):
            continue
        if node not in file.tree.body or node.decorator_list or node.keywords:
            yield file.told("L5", node, "a class with a decorator, a keyword or a place inside of something")
        seen = set()
        for part in node.body:
            if isinstance(part, ast.FunctionDef):
                if part.name in seen and not part.decorator_list:
                    yield file.told("L18", part, f"{part.name} is defined twice")
                seen.add(part.name)
                yield from check_double_underscores(file, part)
            elif not isinstance(part, ast.Assign) and not (isinstance(part, ast.Expr) and part == node.body[0]):
                yield file.told("L5", part, "no method, class value or docstring")


def check_double_underscores(file, method):
    """L28: what the methods with double underscores return."""
    returned = [node.value for node in ast.walk(method) if isinstance(node, ast.Return)]
    if method.name == "__init__" and returned:
        yield file.told("L28", method, "__init__ returns something")
    if method.name in ("__str__", "__repr__", "__len__") and not isinstance(method.body[-1], ast.Return):
        yield file.told("L28", method, f"{method.name} does not end with a return")
    for value in returned:
        if method.name in ("__str__", "__repr__"):
            text = isinstance(value, ast.JoinedStr) or isinstance(value, ast.Constant) and isinstance(value.value, str)
            joined = isinstance(value, ast.Call) and isinstance(value.func, ast.Attribute) and value.func.attr == "join"
            if not (text or joined or named(value) in ("str", "repr")):
                yield file.told("L28", method, f"{method.name} returns no plain string")
    if method.name in ("__eq__", "__repr__", "__str__", "__len__"):
        for node in ast.walk(method):
            if isinstance(node, (ast.Attribute, ast.Subscript)) and not isinstance(node.ctx, ast.Load):
                yield file.told("L28", node, f"{method.name} changes something")


def check_errors(file):
    """L19: what is raised and caught."""
    for node in file.nodes:
        if isinstance(node, ast.Raise) and node.exc is not None:
            if named(node.exc) is None or not (named(node.exc) in file.errors or named(node.exc) in GIVEN):
                yield file.told("L19", node, "the error is not created on the spot")
        if isinstance(node, ast.ExceptHandler):
            parts = node.type.elts if isinstance(node.type, ast.Tuple) else [node.type]
            if not all(isinstance(part, ast.Name) and part.id in CATCHABLE | file.errors for part in parts):
                yield file.told("L19", node, "an error that is not caught")


def check_calls(file):
    """L22, L23, L25: builtins and methods that are called."""
    called = {id(node.func) for node in file.nodes if isinstance(node, ast.Call)}
    for node in file.nodes:
        if isinstance(node, ast.Call) and isinstance(node.func, ast.Attribute):
            if node.func.attr not in METHODS | file.known | {"__init__", "sort", "maketrans"}:
                yield file.told("L25", node, f"the method {node.func.attr}")
        if isinstance(node, ast.Name) and node.id in LAZY and id(node) not in called:
            yield file.told("L22", node, f"{node.id} is stored")
        if isinstance(node, (ast.Assign, ast.Return)) and named(node.value) in LAZY:
            yield file.told("L23", node, f"{named(node.value)} is not iterated at once")
        if isinstance(node, ast.For) and isinstance(node.iter, ast.Set):
            yield file.told("L24", node, "a set is iterated")


def check_strings(file):
    """L27, L8: what stands in strings."""
    for node in file.nodes:
        if isinstance(node, ast.Constant) and isinstance(node.value, str):
            if "%" in node.value:
                yield file.told("L27", node, "a string with a per cent sign")
            if node.value.endswith(("._", ".__")) or re.fullmatch("__.*__", node.value):
                yield file.told("L27", node, "a string with underscores at its end")
        if isinstance(node, ast.BinOp) and isinstance(node.op, ast.Pow):
            if not (isinstance(node.right, ast.Constant) and 0 <= node.right.value <= 64):
                yield file.told("L27", node, "an exponent that is no literal from 0 to 64")


CHECKS = (
    check_text, check_module, check_imports, check_names, check_statements, check_functions, check_classes,
    check_errors, check_calls, check_strings, *MORE_CHECKS, *TRY_CHECKS,
)


def breaks(file):
    """Return the list of all that the checks find in a file."""
    return [told for check in CHECKS for told in check(file)]


def package_files(folder=FOLDER):
    """Return the files of the package, each with what it must know of the others."""
    texts = {path.name: path.read_text(encoding="utf-8") for path in sorted(folder.glob("*.py"))}
    trees = [ast.parse(text) for text in texts.values()]
    nodes = [node for tree in trees for node in ast.walk(tree)]
    known = {node.name for node in nodes if isinstance(node, (ast.FunctionDef, ast.ClassDef))}
    errors = {
        node.name for node in nodes if isinstance(node, ast.ClassDef)
        for base in node.bases if base.id in ("FormError", "StateError", "ValueError", "LookupError", "Exception")
    }
    generators = {node.name for node in nodes if isinstance(node, ast.FunctionDef) and is_generator(node)}
    return [File(name, text, known, errors, generators) for name, text in texts.items()]


def check_folder(folder=FOLDER):
    """L1, L14: the names in the folder of the package."""
    for path in sorted(folder.iterdir()):
        if path.name == "__pycache__":
            continue
        plain = re.fullmatch("[a-z0-9][a-z0-9_]*", path.stem) or path.name == "__init__.py"
        if path.suffix != ".py" or not plain or path.stem.startswith(("law_", "test_")):
            yield f"L1 {path.name} is no file of a package"
        if path.stem in GIVEN or keyword.iskeyword(path.stem) or path.stem in BARRED_NAMES:
            yield f"L14 {path.name} has a name that is not used"
    if PACKAGE in sys.stdlib_module_names or not (folder / "__init__.py").is_file():
        yield f"L14 {PACKAGE} is no package"


def check_package(files):
    """L16, L18: imports from the very file, no circles, no name both a method and an attribute."""
    own = {file.name: {name for node in file.tree.body for part, name in bound_names(
        [node, *getattr(node, "targets", [])]) if not isinstance(node, ast.ImportFrom)} for file in files}
    drawn = {file.name: set() for file in files}
    for file in files:
        for node in file.nodes:
            if isinstance(node, ast.ImportFrom):
                source = (node.module or "").removeprefix(PACKAGE + ".") + ".py"
                drawn[file.name].add(source)
                for part in node.names:
                    if part.name not in own.get(source, ()):
                        yield file.told("L16", node, f"{source} does not define {part.name}")
    while drawn:
        ends = [name for name, sources in drawn.items() if not sources & set(drawn)]
        if not ends:
            yield f"L16 circle of imports among {sorted(drawn)}"
            break
        for name in ends:
            del drawn[name]
    nodes = [node for file in files for node in file.nodes]
    methods = {part.name for node in nodes if isinstance(node, ast.ClassDef) for part in node.body
               if isinstance(part, ast.FunctionDef)}
    attributes = {node.attr for node in nodes if isinstance(node, ast.Attribute) and isinstance(node.ctx, ast.Store)}
    for name in sorted(methods & attributes):
        yield f"L18 {name} is a method and an attribute"
