"""Which statements and expressions stand where: L3 to L7, L10, L13, L19 to L21, L27, L28."""

import ast
import re

from tests.language.names import DUNDER_METHODS
from tests.language.source import (BUILTIN_ERRORS, COMPREHENSIONS, FUNCTIONS, called_name,
                                   is_docstring, is_number, plain_name)

ALLOWED = (
    ast.Module, ast.Expr, ast.FunctionDef, ast.ClassDef, ast.Return, ast.Delete, ast.Assign,
    ast.AugAssign, ast.For, ast.While, ast.If, ast.Raise, ast.Try, ast.ExceptHandler, ast.Assert,
    ast.ImportFrom, ast.Pass, ast.Break, ast.Continue, ast.BoolOp, ast.BinOp, ast.UnaryOp,
    ast.Lambda, ast.IfExp, ast.Dict, ast.Set, ast.ListComp, ast.SetComp, ast.DictComp, ast.Compare,
    ast.Call, ast.JoinedStr, ast.FormattedValue, ast.Constant, ast.Attribute, ast.Subscript,
    ast.Starred, ast.Name, ast.List, ast.Tuple, ast.Slice, ast.comprehension, ast.arguments,
    ast.arg, ast.keyword, ast.alias, ast.expr_context, ast.boolop, ast.operator, ast.unaryop,
    ast.cmpop)
RULES = {ast.Div: "L7", ast.MatMult: "L7", ast.GeneratorExp: "L7", ast.NamedExpr: "L7",
         ast.Import: "L2", ast.AnnAssign: "L21", ast.Yield: "L23", ast.YieldFrom: "L23"}
FORMAT = re.compile(r"(.?[<>=^])?[+\- ]?#?0?\d{0,2}[,_]?(\.\d{1,2})?[dsxXob]?")


def check_nodes(package, source):
    """L2, L6, L7, L21, L23: which kinds of nodes there are."""
    for node in source.nodes:
        if not isinstance(node, ALLOWED) or isinstance(node, (ast.Div, ast.MatMult)):
            line = getattr(node, "lineno", getattr(source.parent(node), "lineno", 0))
            yield RULES.get(type(node), "L6"), source.name, line, type(node).__name__
        if isinstance(node, ast.Constant):
            if type(node.value) not in (int, str, bytes, bool, type(None)):
                yield "L7", source.name, node.lineno, "a literal of a kind that is barred"
            if type(node.value) is int and node.value >= 10 ** 900:
                yield "L27", source.name, node.lineno, "a number of too many digits"


def check_module(package, source):
    """L3: a module has a docstring, imports, functions, classes and plain values."""
    for row in source.tree.body:
        if isinstance(row, ast.Assign):
            if len(row.targets) != 1 or plain_name(row.targets[0]) is None:
                yield "L3", source.name, row.lineno, "more than one name"
            if not is_plain(row.value, True):
                yield "L3", source.name, row.lineno, "no plain value"
        elif isinstance(row, ast.Expr) and is_docstring(source, row.value):
            continue
        elif not isinstance(row, (ast.ImportFrom, ast.FunctionDef, ast.ClassDef)):
            yield "L3", source.name, row.lineno, "a statement that is barred at module level"


def is_plain(node, lists):
    """Whether a value is plain: a literal, or a tuple, list or dict of such."""
    if isinstance(node, ast.Tuple):
        return all(is_plain(one, False) for one in node.elts)
    if isinstance(node, ast.List):
        return lists and all(is_plain(one, False) for one in node.elts)
    if isinstance(node, ast.Dict):
        return lists and all(one is not None and is_plain(one, False)
                             for one in node.keys + node.values)
    return is_number(node) or isinstance(node, ast.Constant)


def check_functions(package, source):
    """L4, L10, L21: parameters, defaults, decorators and sizes."""
    for node in source.of(ast.FunctionDef, ast.Lambda):
        told = node.args
        if isinstance(node, ast.FunctionDef):
            if node.decorator_list:
                yield "L4", source.name, node.lineno, "a decorator"
            if node.end_lineno - node.lineno + 1 > 40:
                yield "L10", source.name, node.lineno, "more than 40 lines"
            if node.returns is not None:
                yield "L21", source.name, node.lineno, "an annotation"
        elif told.vararg or told.kwarg or told.kwonlyargs or told.posonlyargs:
            yield "L4", source.name, node.lineno, "a star in a lambda"
        if told.vararg or told.kwarg or told.posonlyargs:
            yield "L4", source.name, node.lineno, "a star or a slash among the parameters"
        for one in told.defaults + [one for one in told.kw_defaults if one is not None]:
            if not is_plain(one, False):
                yield "L4", source.name, node.lineno, "a default that is not plain"
    for node in source.of(ast.arg):
        if node.annotation is not None:
            yield "L21", source.name, node.lineno, "an annotation"


def check_classes(package, source):
    """L5, L15, L18, L28: where classes stand and what is in them."""
    for node in source.of(ast.ClassDef):
        if source.parent(node) is not source.tree:
            yield "L15", source.name, node.lineno, "a class that is not at module level"
        if node.decorator_list or node.keywords or len(node.bases) > 1:
            yield "L5", source.name, node.lineno, "a decorator, or several bases"
        for base in node.bases:
            if plain_name(base) not in BUILTIN_ERRORS | set(package.classes):
                yield "L5", source.name, node.lineno, "a base that is no own class"
            if plain_name(base) in ("StopIteration", "AttributeError"):
                yield "L18", source.name, node.lineno, "a base that is barred"
        for row in node.body:
            text = isinstance(row, ast.Expr) and is_docstring(source, row.value)
            if not text and not isinstance(row, (ast.FunctionDef, ast.Pass)):
                yield "L5", source.name, row.lineno, "something else than a method"
    for node in source.of(ast.FunctionDef):
        in_class = isinstance(source.parent(node), ast.ClassDef)
        if node.name.startswith("__") and (not in_class or node.name not in DUNDER_METHODS):
            yield "L28", source.name, node.lineno, "a double-underscore method that is barred"
        elif node.name.startswith("__"):
            yield from wrong_dunder(source, node)


def wrong_dunder(source, node):
    """L28: what stands in a double-underscore method."""
    rows = list(ast.walk(node))
    returns = [row for row in rows if isinstance(row, ast.Return)]
    changes = (ast.Assign, ast.AugAssign, ast.Delete, ast.For, ast.While)
    if node.name == "__init__":
        if any(row.value is not None for row in returns):
            yield "L28", source.name, node.lineno, "an __init__ that returns something"
        return
    if any(isinstance(row, changes) for row in rows):
        yield "L28", source.name, node.lineno, "a double-underscore method that assigns"
    if not isinstance(node.body[-1], ast.Return):
        yield "L28", source.name, node.lineno, "no return at the end"
    if node.name == "__len__":
        if any(called_name(row.value) != "len" and not is_number(row.value) for row in returns):
            yield "L28", source.name, node.lineno, "no len or number"


def check_statements(package, source):
    """L6, L19: targets, del, assert, try and raise."""
    for node in source.of(ast.Assign, ast.AugAssign, ast.For, ast.comprehension):
        targets = node.targets if isinstance(node, ast.Assign) else [node.target]
        value = getattr(node, "value", None) or getattr(node, "iter", None)
        inner = isinstance(node, (ast.For, ast.comprehension))
        for target in targets:
            if wrong_target(target, inner):
                yield "L6", source.name, target.lineno, "a target that is barred"
            stars = [one for one in ast.walk(target) if isinstance(one, ast.Starred)]
            if len(stars) > 1 or stars and not inner and isinstance(value, ast.Call):
                yield "L6", source.name, target.lineno, "a star that is barred"
    for node in source.of(ast.Delete):
        if not all(isinstance(one, ast.Subscript) for one in node.targets):
            yield "L6", source.name, node.lineno, "a del of something else than an item"
    for node in source.of(ast.Assert):
        if isinstance(node.test, ast.Tuple):
            yield "L6", source.name, node.lineno, "an assert of a tuple"
    for node in source.of(ast.Try):
        if node.finalbody:
            yield "L6", source.name, node.lineno, "a finally"
    yield from wrong_errors(package, source)


def wrong_target(node, inner):
    if isinstance(node, ast.Starred):
        node = node.value
    if isinstance(node, ast.Tuple):
        return any(wrong_target(one, inner) for one in node.elts)
    return not isinstance(node, ast.Name if inner else (ast.Name, ast.Subscript, ast.Attribute))


def error_names(package):
    """The names of the package's own error classes."""
    found = set()
    for _ in package.classes:
        for name, node in package.classes.items():
            if any(plain_name(base) in found | BUILTIN_ERRORS for base in node.bases):
                found.add(name)
    return found


def wrong_errors(package, source):
    """L19: what is caught and what is raised."""
    own = error_names(package)
    for node in source.of(ast.ExceptHandler):
        caught = node.type.elts if isinstance(node.type, ast.Tuple) else [node.type]
        if not caught or any(plain_name(one) not in own | {"KeyError", "ZeroDivisionError"}
                             for one in caught):
            yield "L19", source.name, node.lineno, "catches what it may not"
        name = node.name
        if name and any(plain_name(one) == name and isinstance(one.ctx, ast.Store)
                        for one in source.of(ast.Name)):
            yield "L19", source.name, node.lineno, "the error's name is bound again"
    for node in source.of(ast.Raise):
        if node.exc is None and not source.inside(node, ast.ExceptHandler):
            yield "L19", source.name, node.lineno, "a bare raise"
        if node.exc is not None and called_name(node.exc) not in own | BUILTIN_ERRORS:
            yield "L19", source.name, node.lineno, "raises no error that is made here"
        if node.cause is not None:
            yield "L19", source.name, node.lineno, "a raise from something"


def check_expressions(package, source):
    """L7, L13, L20, L27: signs, strings, stars and sets."""
    for node in source.of(ast.Compare):
        if any(isinstance(one, (ast.Is, ast.IsNot)) for one in node.ops):
            sides = [node.left, *node.comparators]
            if not any(isinstance(one, ast.Constant) and one.value in (None, True, False)
                       and not is_number(one) for one in sides):
                yield "L20", source.name, node.lineno, "is beside something else than None"
    for node in source.of(ast.BinOp, ast.AugAssign):
        power = node.right if isinstance(node, ast.BinOp) else node.value
        if isinstance(node.op, ast.Pow):
            if not is_number(power) or isinstance(power, ast.UnaryOp) or power.value > 64:
                yield "L27", source.name, node.lineno, "an exponent that is no small literal"
    for node in source.of(ast.Set):
        numbers = [one for one in ast.walk(node) if is_number(one)]
        held = source.parent(node)
        tested = isinstance(held, ast.Compare) and isinstance(held.ops[0], (ast.In, ast.NotIn))
        if len([one for one in node.elts if is_number(one)]) > 2 and not tested:
            yield "L13", source.name, node.lineno, "a set of several integers"
        if {"-1", "-2"} <= {ast.unparse(one) for one in numbers}:
            yield "L13", source.name, node.lineno, "a set with -1 and -2"
    lambdas = [node.lineno for node in source.of(ast.Lambda)]
    for line in {line for line in lambdas if lambdas.count(line) > 1}:
        yield "L13", source.name, line, "two lambdas on one line"
    yield from wrong_f_strings(source)
    yield from wrong_comprehensions(source)


def wrong_f_strings(source):
    for node in source.of(ast.FormattedValue):
        if node.conversion not in (-1, ord("r"), ord("s")):
            yield "L7", source.name, node.lineno, "a conversion that is barred"
        spec = node.format_spec
        if spec is not None:
            parts = spec.values
            if any(not isinstance(one, ast.Constant) for one in parts):
                yield "L7", source.name, node.lineno, "a format that is no literal"
            elif not parts or not FORMAT.fullmatch(parts[0].value):
                yield "L7", source.name, node.lineno, "a format that is barred"
        if any(isinstance(one, ast.JoinedStr) or isinstance(getattr(one, "value", 0), (str, bytes))
               for one in ast.walk(node.value)):
            yield "L27", source.name, node.lineno, "a string inside the braces"


def wrong_comprehensions(source):
    for node in source.of(*COMPREHENSIONS):
        around = source.around(node)
        outer = [one for one in around if isinstance(one, FUNCTIONS + COMPREHENSIONS)]
        if not outer:
            yield "L7", source.name, node.lineno, "a comprehension outside of functions"
        parts = [one for one in ast.walk(node) if isinstance(one, ast.comprehension)]
        if len(parts) > 6 or sum(len(one.ifs) for one in parts) > 12:
            yield "L7", source.name, node.lineno, "too many for or if"
        bound = {one.id for part in node.generators for one in ast.walk(part.target)
                 if isinstance(one, ast.Name)}
        for one in outer if len(outer) > 1 else []:
            if bound & names_bound_by(one):
                yield "L7", source.name, node.lineno, "a name of further out"
    for node in source.of(ast.Starred):
        held = source.parent(node)
        if isinstance(held, ast.Set) or isinstance(source.parent(held), ast.Subscript):
            yield "L7", source.name, node.lineno, "a star in a set or an index"


def names_bound_by(node):
    """The names that a function or a comprehension binds itself."""
    if isinstance(node, COMPREHENSIONS):
        return {one.id for part in node.generators for one in ast.walk(part.target)
                if isinstance(one, ast.Name)}
    found = {one.arg for one in ast.walk(node.args) if isinstance(one, ast.arg)}
    rows = node.body if isinstance(node.body, list) else []
    for row in rows:
        for one in ast.walk(row):
            if isinstance(one, (ast.Assign, ast.For)):
                targets = one.targets if isinstance(one, ast.Assign) else [one.target]
                found |= {name.id for target in targets for name in ast.walk(target)
                          if isinstance(name, ast.Name) and isinstance(name.ctx, ast.Store)}
    return found
