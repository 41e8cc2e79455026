"""What is called, how, and what is iterated: L7, L18, L22 to L25."""

import ast

from tests.language.source import (BUILTIN_ERRORS, BUILTINS, COMPREHENSIONS, MODIFYING,
                                   called_name, plain_name, same)
from tests.language.syntax import error_names

METHODS = {"append", "clear", "copy", "count", "endswith", "extend", "find", "get", "index",
           "insert", "isalnum", "isalpha", "isdigit", "islower", "isspace", "isupper", "items",
           "join", "keys", "ljust", "lower", "lstrip", "partition", "pop", "remove", "replace",
           "reverse", "rfind", "rjust", "rpartition", "rsplit", "rstrip", "setdefault", "split",
           "splitlines", "startswith", "strip", "update", "upper", "values", "zfill", "bit_length"}
SET_METHODS = {"add", "discard"}
CLASSES = {"int", "str", "bool", "bytes", "list", "tuple", "dict"}
KEYS = {"len", "int", "str", "abs", "sum", "min", "max", "tuple"}
KEYWORDS = {"sorted": {"key", "reverse"}, "min": {"key", "default"}, "max": {"key", "default"},
            "sum": {"start"}, "enumerate": {"start"}, "zip": {"strict"}}
MANY = {"len": (1, 1), "range": (1, 3), "enumerate": (1, 2), "sum": (1, 2), "abs": (1, 1),
        "sorted": (1, 1), "reversed": (1, 1), "int": (0, 2), "str": (0, 1), "bool": (0, 1),
        "list": (0, 1), "tuple": (0, 1), "dict": (0, 1), "set": (0, 1), "isinstance": (2, 2),
        "ord": (1, 1), "repr": (1, 1), "any": (1, 1), "all": (1, 1), "divmod": (2, 2)}
ITERATORS = {"range", "enumerate", "zip", "reversed", "product", "combinations", "permutations"}
PRODUCTS = {"product", "combinations", "permutations"}
VIEWS = {"items", "keys", "values"}
ITERATED_BY = {"list", "tuple", "dict", "sorted", "sum", "any", "all", "enumerate", "zip", "min",
               "max"}


def check_builtins(package, source):
    """L18, L22: builtins and classes are called, not kept or passed on."""
    classes = set(package.classes) | BUILTIN_ERRORS
    for node in source.of(ast.Name):
        if not isinstance(node.ctx, ast.Load) or node.id not in BUILTINS | classes:
            continue
        parent = source.parent(node)
        held = source.parent(parent) if isinstance(parent, ast.Tuple) else parent
        is_called = isinstance(parent, ast.Call) and parent.func is node
        in_test = called_name(held) == "isinstance" and node.id in CLASSES | classes
        as_key = isinstance(parent, ast.keyword) and parent.arg == "key" and node.id in KEYS
        as_error = isinstance(held, (ast.ExceptHandler, ast.ClassDef)) and node.id in classes
        as_base = isinstance(parent, ast.Attribute) and parent.attr == "__init__"
        if not (is_called or in_test or as_key or as_error or as_base):
            yield "L22", source.name, node.lineno, f"{node.id} is kept or passed on"
        if is_called and node.id in ("bytes", "frozenset"):
            yield "L7", source.name, node.lineno, f"{node.id} is called"


def check_calls(package, source):
    """L7, L22: what may be called, with how many arguments and which keywords."""
    for node in source.of(ast.Call):
        name = called_name(node)
        if not isinstance(node.func, (ast.Name, ast.Attribute)):
            yield "L7", source.name, node.lineno, "calls what is no name and no attribute"
        for one in node.args:
            if isinstance(one, ast.Starred) and not isinstance(one.value, (ast.Name, ast.Attribute)):
                yield "L7", source.name, node.lineno, "a star before what is no name"
        told = {one.arg for one in node.keywords}
        if None in told:
            yield "L7", source.name, node.lineno, "two stars in a call"
        elif name in BUILTINS:
            yield from wrong_builtin_call(source, node, name, told, set(package.classes) | BUILTIN_ERRORS)
        else:
            yield from wrong_own_call(package, source, node, name, told)


def wrong_builtin_call(source, node, name, told, classes):
    if told - KEYWORDS.get(name, set()):
        yield "L22", source.name, node.lineno, f"keywords of {name}"
    for one in node.keywords:
        if one.arg in ("reverse", "strict") and not is_true_or_false(one.value):
            yield "L22", source.name, node.lineno, f"{one.arg} is no literal"
    stars = any(isinstance(one, ast.Starred) for one in node.args)
    if stars and name not in ("max", "min", "zip"):
        yield "L7", source.name, node.lineno, f"a star in {name}"
    if name == "isinstance":
        parts = node.args[-1].elts if isinstance(node.args[-1], ast.Tuple) else [node.args[-1]]
        if not all(plain_name(one) in CLASSES | classes for one in parts):
            yield "L22", source.name, node.lineno, "isinstance of what is no class"
    low, high = MANY.get(name, (0, 99))
    if not low <= len(node.args) <= high:
        yield "L22", source.name, node.lineno, f"the number of arguments of {name}"


def is_true_or_false(node):
    return isinstance(node, ast.Constant) and isinstance(node.value, bool)


def wrong_own_call(package, source, node, name, told):
    """L22: an own function, class or method is passed what it takes."""
    takers = [package.top(source, name)]
    if isinstance(node.func, ast.Attribute) and node.func.attr != "__init__":
        takers = package.methods.get(node.func.attr, [])
    skips = name is None
    if takers and isinstance(takers[0], ast.ClassDef):
        takers = [row for row in takers[0].body
                  if isinstance(row, ast.FunctionDef) and row.name == "__init__"]
        skips = True
    functions = [one for one in takers if isinstance(one, ast.FunctionDef)]
    if any(isinstance(one, ast.Starred) for one in node.args):
        return
    if functions and not any(takes(one, len(node.args), told, skips) for one in functions):
        yield "L22", source.name, node.lineno, "the arguments do not fit"


def takes(function, many, told, skips):
    """Whether a function takes so many arguments by position, and these by name."""
    names = [one.arg for one in function.args.args][1 if skips else 0:]
    by_name = [one.arg for one in function.args.kwonlyargs]
    needed = names[:len(names) - len(function.args.defaults)]
    needed += [one for one, worth in zip(by_name, function.args.kw_defaults) if worth is None]
    given = set(names[:many]) | told
    return many <= len(names) and not set(names[:many]) & told and \
        given <= set(names + by_name) and set(needed) <= given


def check_methods(package, source):
    """L22, L25: the methods that are called, and that they are not passed on."""
    for node in source.of(ast.Call):
        if not isinstance(node.func, ast.Attribute) or node.func.attr == "__init__":
            continue
        name = node.func.attr
        if name not in METHODS | SET_METHODS | set(package.methods):
            yield "L25", source.name, node.lineno, f"the method {name}"
        elif name not in package.methods and node.keywords:
            yield "L25", source.name, node.lineno, f"keywords of {name}"


def check_iteration(package, source):
    """L23: what is iterated on the spot, and not changed in the loop."""
    for node in source.of(ast.Call):
        view = isinstance(node.func, ast.Attribute) and node.func.attr in VIEWS
        if (called_name(node) in ITERATORS or view) and not is_iterated(source, node):
            yield "L23", source.name, node.lineno, "not iterated on the spot"
    for node in source.of(ast.For, *COMPREHENSIONS):
        heads = [node.iter] if isinstance(node, ast.For) else [one.iter for one in node.generators]
        body = node.body if isinstance(node, ast.For) else [node]
        changed = [one for row in body for one in changes(row)]
        for head in heads:
            for one in gone_over(head):
                if any(same(one, other) for other in changed):
                    yield "L23", source.name, node.lineno, "changes what it goes over"


def is_iterated(source, node):
    parent = source.parent(node)
    if isinstance(parent, (ast.For, ast.comprehension)):
        return parent.iter is node
    if isinstance(parent, ast.Call) and node in parent.args:
        by = called_name(parent)
        if called_name(node) == "range" and by in ("len", "reversed"):
            return True
        if called_name(node) in PRODUCTS:
            return by in ITERATED_BY - {"enumerate", "zip", "dict"}
        joins = isinstance(parent.func, ast.Attribute) and parent.func.attr == "join"
        return joins or by in ITERATED_BY or called_name(node) is None and by in ITERATORS
    ranged = called_name(node) in ("range", None)
    return ranged and isinstance(parent, ast.Compare) and isinstance(parent.ops[0], (ast.In, ast.NotIn))


def gone_over(node):
    """The names, attributes and items that a loop with this head goes over."""
    if isinstance(node, (ast.Name, ast.Attribute, ast.Subscript)):
        return [node]
    if called_name(node) in ITERATORS - {"range"}:
        return [one for part in node.args for one in gone_over(part)]
    if isinstance(node, ast.Call) and isinstance(node.func, ast.Attribute):
        return [node.func.value] if node.func.attr in VIEWS else []
    if isinstance(node, ast.IfExp):
        return gone_over(node.body) + gone_over(node.orelse)
    if isinstance(node, ast.BoolOp):
        return [one for part in node.values for one in gone_over(part)]
    return []


def changes(row):
    """The expressions whose items a statement changes."""
    found = []
    for node in ast.walk(row):
        if isinstance(node, ast.Call) and isinstance(node.func, ast.Attribute):
            if node.func.attr in MODIFYING:
                found.append(node.func.value)
        elif called_name(node) in ("heappush", "heappop", "heapify", "heapreplace", "heappushpop"):
            found.append(node.args[0])
        elif isinstance(node, ast.Subscript) and not isinstance(node.ctx, ast.Load):
            found.append(node.value)
        elif isinstance(node, ast.AugAssign):
            found.append(node.target)
    return found


def check_sets(package, source):
    """L24: where sets stand, and what happens to those that are kept."""
    for node in source.of(ast.Call, ast.Set, ast.SetComp):
        if isinstance(node, ast.Call) and called_name(node) != "set":
            continue
        outer = node
        while isinstance(source.parent(outer), ast.BinOp):
            outer = source.parent(outer)
        parent = source.parent(outer)
        if isinstance(parent, ast.Assign) and outer is node:
            if not is_kept_well(source, parent):
                yield "L24", source.name, node.lineno, "a kept set that is used otherwise"
        elif not is_used_well(parent, outer):
            yield "L24", source.name, node.lineno, "a set that stands where none may"


def is_used_well(parent, node):
    """Whether a set that is written somewhere, or the name of one, may stand there."""
    if isinstance(parent, ast.Compare):
        if isinstance(parent.ops[0], (ast.In, ast.NotIn)):
            return parent.comparators[0] is node
        return isinstance(parent.ops[0], (ast.Eq, ast.NotEq))
    return called_name(parent) in ("sorted", "len") and parent.args[0] is node


def is_kept_well(source, row):
    name = plain_name(row.targets[0])
    holders = [one for one in source.around(row) if isinstance(one, ast.FunctionDef)]
    if name is None or len(row.targets) > 1 or not holders:
        return False
    uses = [one for one in ast.walk(holders[0]) if plain_name(one) == name]
    stores = [one for one in uses if isinstance(one.ctx, ast.Store)]
    arguments = [one.arg for one in ast.walk(holders[0].args) if isinstance(one, ast.arg)]
    if len(stores) != 1 or name in arguments:
        return False
    return all(is_set_use(source, one, holders[0]) for one in uses if one is not stores[0])


def is_set_use(source, node, holder):
    parent = source.parent(node)
    nearest = [one for one in source.around(node) if isinstance(one, (ast.FunctionDef, ast.Lambda))]
    if nearest[0] is not holder:
        return False
    if isinstance(parent, ast.Attribute):
        call = source.parent(parent)
        return (parent.attr in SET_METHODS and isinstance(call, ast.Call) and call.func is parent
                and isinstance(source.parent(call), ast.Expr))
    if isinstance(parent, (ast.If, ast.While, ast.Assert, ast.IfExp)):
        return parent.test is node
    if isinstance(parent, ast.UnaryOp):
        return isinstance(parent.op, ast.Not)
    return is_used_well(parent, node)


def check_errors_made(package, source):
    """L19, L22: Python's own error classes take no keywords."""
    for node in source.of(ast.Call):
        if called_name(node) in BUILTIN_ERRORS - error_names(package) and node.keywords:
            yield "L22", source.name, node.lineno, "keywords of an error of Python's own"
