"""More checks of ../shared/LANGUAGE.md: generators, sets, what loops iterate over, and what builtins take.

They have the form of the checks in tests/language.py.
"""

import ast

ITERATING = {"list", "tuple", "dict", "sorted", "sum", "min", "max", "any", "all", "enumerate", "zip"}
LISTED = {"sum", "min", "max", "sorted", "any", "all"}
CHANGING = {"append", "clear", "extend", "insert", "pop", "remove", "reverse", "setdefault", "update", "sort"}
TESTS = (ast.If, ast.While, ast.IfExp, ast.Assert)


def name_of_call(node):
    """Return the name that is called, or None."""
    return node.func.id if isinstance(node, ast.Call) and isinstance(node.func, ast.Name) else None


def parents_of(nodes):
    """Return a dict with the node above each node."""
    return {id(child): node for node in nodes for child in ast.iter_child_nodes(node)}


def functions_of(file):
    return [node for node in file.nodes if isinstance(node, ast.FunctionDef)]


def is_generator(function):
    return any(isinstance(node, (ast.Yield, ast.YieldFrom)) for node in ast.walk(function))


def is_set(node):
    """Tell whether the node makes a set, also by an operator between sets."""
    if isinstance(node, ast.BinOp):
        return is_set(node.left) or is_set(node.right)
    return isinstance(node, (ast.Set, ast.SetComp)) or name_of_call(node) in ("set", "frozenset")


def check_generators(file):
    """L23: generators are iterated at once, and return no value."""
    above = parents_of(file.nodes)
    generators = {function.name for function in functions_of(file) if is_generator(function)} | set(file.generators)
    for function in functions_of(file):
        if is_generator(function):
            for node in ast.walk(function):
                if isinstance(node, ast.Return) and node.value is not None:
                    yield file.told("L23", node, "a generator returns a value")
                if isinstance(node, (ast.Try, ast.With)):
                    yield file.told("L23", node, "a generator with a try or a with")
    for node in file.nodes:
        if isinstance(node, (ast.Yield, ast.YieldFrom)) and not isinstance(above[id(node)], ast.Expr):
            yield file.told("L23", node, "a yield that is no statement of its own")
        if isinstance(node, ast.Name) and isinstance(node.ctx, ast.Load) and node.id in generators:
            call = above[id(node)]
            if name_of_call(call) != node.id:
                yield file.told("L23", node, f"{node.id} is used as a value")
            elif not is_iterated(call, above[id(call)]):
                yield file.told("L23", node, f"{node.id} is not iterated at once")


def is_iterated(node, parent):
    """Tell whether what stands above the node iterates over it at once."""
    if isinstance(parent, (ast.For, ast.comprehension)):
        return parent.iter is node
    return isinstance(parent, ast.YieldFrom) or name_of_call(parent) in ITERATING


def check_sets(file):
    """L24: sets stand only where they are not iterated, and are stored by local names only."""
    above = parents_of(file.nodes)
    for node in file.nodes:
        if is_set(node) and not is_set(above[id(node)]):
            parent = above[id(node)]
            stored = isinstance(parent, ast.Assign) and all(isinstance(part, ast.Name) for part in parent.targets)
            if not (stored or name_of_call(parent) in ("sorted", "len") or isinstance(parent, ast.Compare)):
                yield file.told("L24", node, "a set in a place where none may stand")
    for function in functions_of(file):
        yield from check_stored_sets(file, function, above)


def check_stored_sets(file, function, above):
    """L24: what a function does with its sets."""
    nodes = list(ast.walk(function))
    stores = [node for node in nodes if isinstance(node, ast.Name) and isinstance(node.ctx, ast.Store)]
    names = {node.id for node in stores if isinstance(above[id(node)], ast.Assign) and is_set(above[id(node)].value)}
    for name in names:
        if len([node for node in stores if node.id == name]) > 1:
            yield file.told("L24", function, f"{name} is assigned more than once")
    for node in nodes:
        if isinstance(node, ast.Name) and isinstance(node.ctx, ast.Load) and node.id in names:
            if not is_use_of_set(node, above[id(node)], above):
                yield file.told("L24", node, f"{node.id} is a set and is used otherwise")


def is_use_of_set(node, parent, above):
    """Tell whether a stored set may stand below this node."""
    if isinstance(parent, ast.Attribute):
        call = above[id(parent)]
        return parent.attr in ("add", "discard") and isinstance(above[id(call)], ast.Expr)
    if isinstance(parent, ast.Compare):
        return node is not parent.left or isinstance(parent.ops[0], (ast.Eq, ast.NotEq))
    if isinstance(parent, TESTS):
        return parent.test is node
    if isinstance(parent, ast.UnaryOp):
        return isinstance(parent.op, ast.Not)
    return name_of_call(parent) in ("len", "sorted")


def iterated_texts(node):
    """Return the texts of what a loop over this node iterates over."""
    if name_of_call(node) in ("enumerate", "zip", "reversed"):
        return [text for part in node.args for text in iterated_texts(part)]
    if isinstance(node, ast.Call) and isinstance(node.func, ast.Attribute) and not node.args:
        return [ast.unparse(node.func.value)]
    return [] if isinstance(node, ast.Call) else [ast.unparse(node)]


def check_loops(file):
    """L23: a loop does not change what it iterates over."""
    for loop in file.nodes:
        if isinstance(loop, ast.For):
            texts = iterated_texts(loop.iter)
            for node in [part for row in loop.body for part in ast.walk(row)]:
                changed = None
                if isinstance(node, ast.Call) and isinstance(node.func, ast.Attribute) and node.func.attr in CHANGING:
                    changed = node.func.value
                if isinstance(node, ast.Subscript) and not isinstance(node.ctx, ast.Load):
                    changed = node.value
                if isinstance(node, ast.AugAssign):
                    changed = node.target
                if changed is not None and ast.unparse(changed) in texts:
                    yield file.told("L23", node, f"the loop changes {ast.unparse(changed)}")


def check_taken(file):
    """L5, L22, L25: what builtins and methods take in a package whose classes compare."""
    for node in file.nodes:
        if not isinstance(node, ast.Call):
            continue
        if name_of_call(node) in LISTED and len(node.args) == 1 and name_of_call(node.args[0]) in file.generators:
            yield file.told("L5", node, f"{node.func.id} takes a generator; take a list")
        if isinstance(node.func, ast.Attribute) and node.func.attr == "sort":
            yield file.told("L25", node, "a list is sorted in place")
        if name_of_call(node) in ITERATING - {"sorted", "min", "max", "sum", "enumerate", "zip"} and node.keywords:
            yield file.told("L22", node, f"keywords of {node.func.id}")
        if isinstance(node.func, ast.Attribute) and node.func.attr in CHANGING and node.keywords:
            yield file.told("L25", node, f"keywords of {node.func.attr}")


def check_comprehensions(file):
    """L3, L7: comprehensions stand in functions, with few loops and tests."""
    inside = {id(part) for function in functions_of(file) for part in ast.walk(function)}
    for node in file.nodes:
        if isinstance(node, (ast.ListComp, ast.SetComp, ast.DictComp)):
            if id(node) not in inside:
                yield file.told("L7", node, "a comprehension outside of functions")
            if len(node.generators) > 6 or sum(len(part.ifs) for part in node.generators) > 12:
                yield file.told("L7", node, "too many loops or tests")


MORE_CHECKS = (check_generators, check_sets, check_loops, check_taken, check_comprehensions)
