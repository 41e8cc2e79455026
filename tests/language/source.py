"""The files of a package, parsed, and what all checks ask of them."""

import ast
import builtins
import symtable
import warnings

FUNCTIONS = (ast.FunctionDef, ast.Lambda)
COMPREHENSIONS = (ast.ListComp, ast.SetComp, ast.DictComp)
MODIFYING = {"append", "clear", "extend", "insert", "pop", "remove", "reverse", "setdefault",
             "update", "sort", "add", "discard"}
ALL_BUILTINS = {name for name in dir(builtins) if not name.startswith("_")}
BUILTIN_ERRORS = {"Exception", "ValueError", "TypeError", "KeyError", "IndexError", "LookupError",
                  "ZeroDivisionError", "ArithmeticError", "OverflowError", "RuntimeError",
                  "NotImplementedError", "AttributeError", "StopIteration"}
# Of the builtins of L8 those that the package may use so far.
BUILTINS = {"len", "range", "enumerate", "zip", "min", "max", "sum", "abs", "sorted", "reversed",
            "int", "str", "bool", "bytes", "list", "tuple", "dict", "set", "isinstance", "ord",
            "repr", "any", "all", "divmod", "NotImplemented"} | BUILTIN_ERRORS


class Source:
    """One file: its name in the package, its text and its tree."""

    def __init__(self, name, text):
        self.name = name
        self.text = text
        with warnings.catch_warnings():
            warnings.simplefilter("ignore")
            self.tree = ast.parse(text)
            self.table = symtable.symtable(text, name, "exec")
        self.nodes = list(ast.walk(self.tree))
        self.parents = {}
        for node in self.nodes:
            for child in ast.iter_child_nodes(node):
                self.parents[child] = node

    def parent(self, node):
        return self.parents.get(node)

    def around(self, node):
        """The nodes around a node, from the innermost one on."""
        found = []
        while node in self.parents:
            node = self.parents[node]
            found.append(node)
        return found

    def inside(self, node, kinds):
        return any(isinstance(one, kinds) for one in self.around(node))

    def of(self, *kinds):
        return [node for node in self.nodes if isinstance(node, kinds)]

    def imported(self):
        """The imported names, with the module and the row of each."""
        return {alias.asname or alias.name: (row.module, row)
                for row in self.of(ast.ImportFrom) for alias in row.names}


class Package:
    """The files of a package under its name."""

    def __init__(self, name, texts):
        self.name = name
        self.names = sorted(texts)
        self.sources = [Source(one, texts[one]) for one in self.names if one.endswith(".py")]
        self.classes = {node.name: node for source in self.sources
                        for node in source.of(ast.ClassDef)}
        self.methods = {}
        self.attributes = set()
        for source in self.sources:
            for node in source.of(ast.FunctionDef):
                if isinstance(source.parent(node), ast.ClassDef):
                    self.methods.setdefault(node.name, []).append(node)
            for node in source.of(ast.Attribute):
                if isinstance(node.ctx, ast.Store):
                    self.attributes.add(node.attr)

    def source_of(self, module):
        """The source of a module by its full name, or None."""
        for source in self.sources:
            if f"{self.name}.{source.name[:-3].replace('/', '.')}" == module:
                return source
        return None

    def top(self, source, name):
        """What a file's outermost rows or imports bind a name to, or None."""
        if name in source.imported():
            origin = self.source_of(source.imported()[name][0])
            return None if origin is None else self.own_top(origin, name)
        return self.own_top(source, name)

    def own_top(self, source, name):
        for row in source.tree.body:
            if isinstance(row, (ast.FunctionDef, ast.ClassDef)) and row.name == name:
                return row
            if isinstance(row, ast.Assign) and name in [plain_name(one) for one in row.targets]:
                return row
        return None


def plain_name(node):
    return node.id if isinstance(node, ast.Name) else None


def called_name(node):
    """The plain name that a node calls, or None."""
    return plain_name(node.func) if isinstance(node, ast.Call) else None


def is_docstring(source, node):
    """Whether a node is the string of a docstring."""
    row = source.parent(node)
    holder = source.parent(row)
    return (isinstance(row, ast.Expr) and isinstance(node, ast.Constant)
            and isinstance(node.value, str) and getattr(holder, "body", [None])[0] is row
            and isinstance(holder, (ast.Module, ast.ClassDef, ast.FunctionDef)))


def is_number(node):
    """Whether a node is a literal integer, perhaps a negative one."""
    if isinstance(node, ast.UnaryOp) and isinstance(node.op, ast.USub):
        node = node.operand
    return isinstance(node, ast.Constant) and type(node.value) is int


def same(one, other):
    """Whether two expressions read alike."""
    return ast.unparse(one) == ast.unparse(other)
