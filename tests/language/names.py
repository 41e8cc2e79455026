"""Which names are bound, and to what: L2, L8, L12, L15 to L18, L26."""

import ast
import re

from tests.language.files import FRAME_NAME
from tests.language.source import ALL_BUILTINS, BUILTINS, MODIFYING, called_name, plain_name

LIBRARY = {
    "heapq": {"heappush", "heappop", "heapify", "heapreplace", "heappushpop"},
    "math": {"gcd", "lcm", "isqrt", "comb", "perm", "factorial"},
    "itertools": {"product", "combinations", "permutations"},
}
NOWHERE = {"register", "mro", "elements", "open", "input", "law", "version_info", "with_traceback",
           "add_note"}
NO_NAMES = {"attrgetter", "breakpoint", "builtins", "compile", "copyright", "credits", "delattr",
            "dir", "eval", "exec", "exit", "gc", "getattr", "globals", "hasattr", "help", "id",
            "importlib", "license", "locals", "methodcaller", "os", "quit", "setattr", "super",
            "type", "vars", "sys", "iter", "next", "map", "property", "staticmethod", "classmethod"}
BARRED_START = re.compile(r"_wall|_pe_|_dcw_|_enum_|_cm_|_twin_re_|_lay_|_law_|_stub_|_sre|_WallAttr"
                          r"|(_cold|_tuplegetter|_outside|_record|_written_out|_member_names)[\d_]*$")
DUNDER_METHODS = {"__init__", "__eq__", "__repr__", "__str__", "__len__"}
# The methods of builtin values that an attribute or a method of the package may be called like.
FREE_METHODS = {"append", "clear", "copy", "count", "endswith", "extend", "find", "get", "index",
                "insert", "isalnum", "isalpha", "isdigit", "islower", "isspace", "isupper", "join",
                "keys", "items", "values", "ljust", "lower", "lstrip", "partition", "pop", "remove",
                "replace", "reverse", "rfind", "rjust", "rpartition", "rsplit", "rstrip",
                "setdefault", "split", "splitlines", "startswith", "strip", "update", "upper",
                "zfill", "bit_length", "add", "discard"}
FREE_ATTRIBUTES = {"count", "index", "title", "find", "get", "join", "lower", "upper", "split",
                   "strip", "copy", "add"}
VALUE_METHODS = {name for kind in (str, int, list, dict, set, bytes, tuple) for name in dir(kind)
                 } | {"is_integer"}


def bindings(source):
    """The names that a file binds: (name, node, what it is)."""
    for node in source.nodes:
        if isinstance(node, ast.ClassDef):
            yield node.name, node, "class"
        elif isinstance(node, ast.FunctionDef):
            holder = source.parent(node)
            kind = {ast.ClassDef: "method", ast.Module: "function"}.get(type(holder), "local")
            yield node.name, node, kind
        elif isinstance(node, ast.arg):
            yield node.arg, node, "local"
        elif isinstance(node, ast.alias):
            yield node.asname or node.name, source.parent(node), "import"
        elif isinstance(node, ast.ExceptHandler) and node.name is not None:
            yield node.name, node, "local"
        elif isinstance(node, ast.Name) and isinstance(node.ctx, ast.Store):
            top = not source.inside(node, (ast.FunctionDef, ast.Lambda))
            yield node.id, node, "value" if top else "local"
        elif isinstance(node, ast.Attribute) and isinstance(node.ctx, ast.Store):
            yield node.attr, node, "attribute"


def check_plain(package, source):
    """L8, L12, L15, L17, L26: how names may read."""
    for name, node, kind in bindings(source):
        if kind == "import" and getattr(node, "module", None) == "__future__":
            continue
        for rule in sorted(set(wrong_name(name, kind))):
            yield rule, source.name, node.lineno, f"the name {name}"
    for node in source.of(ast.Attribute, ast.keyword):
        name = node.attr if isinstance(node, ast.Attribute) else node.arg
        line = node.value.lineno
        if name is not None and (name in NOWHERE or FRAME_NAME.fullmatch(name)):
            yield "L17", source.name, line, f"the name {name}"
        if name is not None and name.startswith("__") and not is_base_init(source, node):
            yield "L8", source.name, line, f"the name {name}"


def wrong_name(name, kind):
    if kind == "method" and name in DUNDER_METHODS:
        return
    if name.startswith("__"):
        yield "L8"
    if not re.fullmatch(r"_?[A-Za-z][A-Za-z0-9_]*|_", name) or BARRED_START.match(name):
        yield "L12"
    if kind == "class" and name.startswith("_"):
        yield "L12"
    if name in NOWHERE or FRAME_NAME.fullmatch(name):
        yield "L17"
    if kind != "attribute" and name in NO_NAMES:
        yield "L17"
    if name in ALL_BUILTINS and (kind not in ("attribute", "method") or name in BUILTINS):
        if kind != "attribute":
            yield "L15"
    if kind == "attribute" and name in VALUE_METHODS - FREE_ATTRIBUTES:
        yield "L26"
    if kind == "method" and name in VALUE_METHODS - FREE_METHODS:
        yield "L26"


def is_base_init(source, node):
    """Whether a node is the `Base.__init__` of a call in an `__init__`."""
    if not isinstance(node, ast.Attribute) or node.attr != "__init__":
        return False
    call = source.parent(node)
    inits = [one for one in source.around(node) if isinstance(one, ast.FunctionDef)]
    return (isinstance(call, ast.Call) and call.func is node and plain_name(node.value) is not None
            and inits[0].name == "__init__" and len(call.args) > 0
            and plain_name(call.args[0]) == "self")


def check_once(package, source):
    """L15: one binding at module level, and no local name like a class or an import."""
    top, held = set(), set(source.imported())
    for name, node, kind in bindings(source):
        if kind in ("class", "function", "value", "import"):
            if name in top:
                yield "L15", source.name, node.lineno, f"{name} is bound twice"
            top.add(name)
        if kind == "class":
            held.add(name)
    for name, node, kind in bindings(source):
        if kind == "local" and name in held:
            yield "L15", source.name, node.lineno, f"{name} is a class or an import"


def check_known(package, source):
    """L8: names that are bound nowhere are builtins that are allowed."""
    top = {name for name, _, kind in bindings(source) if kind not in ("local", "attribute", "method")}
    tables = [source.table]
    while tables:
        table = tables.pop()
        tables.extend(table.get_children())
        for symbol in table.get_symbols():
            name = symbol.get_name()
            outer = symbol.is_global() or table.get_type() == "module"
            if outer and symbol.is_referenced() and name not in top | BUILTINS:
                yield "L8", source.name, table.get_lineno(), f"{name} is not known"


def check_imports(package, source):
    """L2, L16: what is imported from where, and in which rows."""
    body = [row for row in source.tree.body if not is_text(row)]
    first = [row for row in body if isinstance(row, ast.ImportFrom)]
    if first != body[:len(first)] or len(first) != len(source.of(ast.ImportFrom)):
        yield "L2", source.name, 1, "an import that does not stand at the top"
    if source.name.endswith("__init__.py") and body:
        yield "L16", source.name, 1, "more than a docstring in __init__.py"
    for name, (module, row) in source.imported().items():
        origin = package.source_of(module)
        alias = [one for one in row.names if (one.asname or one.name) == name][0]
        if name == "*":
            yield "L2", source.name, row.lineno, "import of all"
        elif module in LIBRARY and row.level == 0:
            if alias.asname is not None or name not in LIBRARY[module]:
                yield "L2", source.name, row.lineno, f"{name} of {module}"
        elif origin is None or row.level != 0:
            yield "L2", source.name, row.lineno, f"{module} is no module of the package"
        elif package.own_top(origin, alias.name) is None:
            yield "L16", source.name, row.lineno, f"{module} does not define {alias.name}"


def is_text(row):
    return isinstance(row, ast.Expr) and isinstance(row.value, ast.Constant)


def check_circles(package):
    """L16: no two files import from each other, neither through other files."""
    ways = {source.name: {origin.name for module, _ in source.imported().values()
                          for origin in [package.source_of(module)] if origin is not None}
            for source in package.sources}
    for name in ways:
        reached, ahead = set(), set(ways[name])
        while ahead:
            one = ahead.pop()
            reached.add(one)
            ahead |= ways[one] - reached
        if name in reached:
            yield "L16", name, 1, "files that import from each other"


def check_library(package, source):
    """L2: a name of the library is only called, in a function, by position."""
    for node in source.of(ast.Name):
        if not isinstance(node.ctx, ast.Load) or node.id not in source.imported():
            continue
        if source.imported()[node.id][0] not in LIBRARY:
            continue
        call = source.parent(node)
        is_called = isinstance(call, ast.Call) and call.func is node
        if not is_called or call.keywords or not source.inside(node, ast.FunctionDef):
            yield "L2", source.name, node.lineno, f"{node.id} is not just called"
        elif any(isinstance(one, ast.Starred) for one in call.args):
            yield "L2", source.name, node.lineno, f"{node.id} with a star"


def check_tables(package, source):
    """L15: lists and dicts at module level are only read."""
    for node in source.of(ast.Name):
        row = package.top(source, node.id)
        if not isinstance(row, ast.Assign) or isinstance(node.ctx, ast.Store):
            continue
        if isinstance(row.value, (ast.List, ast.Dict)) and not is_read(source, node):
            yield "L15", source.name, node.lineno, f"{node.id} is not just read"


def is_read(source, node):
    parent = source.parent(node)
    if isinstance(parent, ast.Subscript):
        return isinstance(parent.ctx, ast.Load)
    if isinstance(parent, ast.Attribute):
        return parent.attr not in MODIFYING
    if isinstance(parent, (ast.For, ast.comprehension)):
        return parent.iter is node
    return isinstance(parent, ast.Compare) or called_name(parent) in BUILTINS


def check_members(package, source):
    """L18: methods and attributes have names of their own, and are there."""
    for name in package.attributes & set(package.methods):
        yield "L18", source.name, 1, f"{name} is a method and an attribute"
    for node in source.of(ast.ClassDef):
        names = [row.name for row in node.body if isinstance(row, ast.FunctionDef)]
        for name in {name for name in names if names.count(name) > 1}:
            yield "L18", source.name, node.lineno, f"{name} is defined twice"
    for node in source.of(ast.Attribute):
        parent = source.parent(node)
        is_called = isinstance(parent, ast.Call) and parent.func is node
        if isinstance(node.ctx, ast.Store) and not isinstance(node.value, ast.Name):
            yield "L18", source.name, node.lineno, "an attribute that is assigned from afar"
        if isinstance(node.ctx, ast.Load) and not is_called and node.attr not in package.attributes:
            yield "L18", source.name, node.lineno, f"nobody assigns {node.attr}"
