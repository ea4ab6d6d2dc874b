"""Checks of what a `finally` block contains, and of how `super()` is used (L5, L6)."""

import ast

FUNCTIONS = (ast.FunctionDef, ast.Lambda)
COMPREHENSIONS = (ast.ListComp, ast.SetComp, ast.DictComp, ast.GeneratorExp)


def is_simple(node):
    """Tell whether the expression is one of those that L6 calls SIMPLE."""
    if isinstance(node, ast.Attribute):
        return is_simple(node.value)
    if isinstance(node, (ast.List, ast.Tuple)):
        return all(is_simple(part) for part in node.elts)
    if isinstance(node, ast.BinOp):
        step = isinstance(node.right, ast.Constant) and type(node.right.value) is int
        right = is_simple(node.right) if isinstance(node.op, ast.Add) else isinstance(node.op, ast.Sub) and step
        return right and is_simple(node.left)
    return isinstance(node, (ast.Name, ast.Constant))


def are_targets(nodes):
    parts = [part for node in nodes for part in (node.elts if isinstance(node, ast.Tuple) else [node])]
    return len(nodes) == 1 and all(isinstance(part, (ast.Name, ast.Attribute)) for part in parts)


def is_kept(statement):
    """Tell whether the statement may stand in a `finally` block; the package has `__eq__`, so tests are `is None`."""
    if isinstance(statement, ast.Assign):
        several = isinstance(statement.targets[0], ast.Tuple)
        many = len(statement.targets[0].elts) if several else 0
        value = statement.value
        fits = isinstance(value, ast.Tuple) and len(value.elts) == many if several else True
        return are_targets(statement.targets) and is_simple(value) and fits
    if isinstance(statement, ast.AugAssign):
        return are_targets([statement.target]) and isinstance(statement.op, ast.Add) and is_simple(statement.value)
    if isinstance(statement, ast.If):
        return is_none_test(statement.test) and all(is_kept(part) for part in (*statement.body, *statement.orelse))
    return isinstance(statement, ast.Pass)


def is_none_test(node):
    if isinstance(node, ast.BoolOp):
        return all(is_none_test(part) for part in node.values)
    if isinstance(node, ast.UnaryOp):
        return isinstance(node.op, ast.Not) and is_none_test(node.operand)
    if not isinstance(node, ast.Compare) or not isinstance(node.ops[0], (ast.Is, ast.IsNot)):
        return False
    return isinstance(node.left, (ast.Name, ast.Attribute)) and isinstance(node.comparators[0], ast.Constant)


def check_finally(file):
    """L6: a `finally` block keeps to simple statements over names that were assigned before the `try`."""
    for function in [node for node in file.nodes if isinstance(node, ast.FunctionDef)]:
        known = {part.arg for part in function.args.args}
        for node in ast.walk(function):
            if isinstance(node, ast.Try) and node.finalbody:
                ahead = {
                    part.id for part in ast.walk(function)
                    if isinstance(part, ast.Name) and isinstance(part.ctx, ast.Store) and part.lineno < node.lineno
                }
                for statement in node.finalbody:
                    read = {part.id for part in ast.walk(statement) if isinstance(part, ast.Name)}
                    if not is_kept(statement) or read - known - ahead:
                        yield file.told("L6", statement, "this does not stand in a finally block")


def check_super(file):
    """L5: `super()` stands only as a call of a method, directly in the rows of a method."""
    inside = set()
    for function in [node for node in file.nodes if isinstance(node, (*FUNCTIONS, *COMPREHENSIONS))]:
        for node in ast.walk(function):
            if isinstance(node, (*FUNCTIONS, *COMPREHENSIONS)) and node != function:
                inside.update(ast.walk(node))
    called = {node.func.value for node in file.nodes if isinstance(node, ast.Call) and isinstance(node.func, ast.Attribute)}
    for node in file.nodes:
        if isinstance(node, ast.Name) and node.id == "super":
            calls = [call for call in file.nodes if isinstance(call, ast.Call) and call.func == node]
            plain = len(calls) == 1 and not calls[0].args and not calls[0].keywords and calls[0] in called
            if not plain or node in inside:
                yield file.told("L5", node, "super() is used otherwise")


TRY_CHECKS = (check_finally, check_super)
