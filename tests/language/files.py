"""What can be seen of a file by its name and its text: L1, L10, L14, L17, L27."""

import ast
import io
import re
import tokenize
import warnings

from tests.language.source import ALL_BUILTINS, is_docstring

BARRED_FILES = {"test", "tests", "testing", "site", "conftest", "sitecustomize", "usercustomize",
                "heapq", "math", "itertools", "collections"}
BARRED_WORDS = {"type", "typing", "typing_extensions", "enum", "Enum", "IntEnum", "StrEnum", "Flag",
                "IntFlag", "Generic", "Protocol", "ABC", "ABCMeta", "namedtuple", "NamedTuple",
                "TypedDict", "TYPE_CHECKING", "abstractmethod"}
FRAME_NAME = re.compile(r"(f_(back|builtins|code|globals|lasti|lineno|locals|trace\w*)"
                        r"|(tb|co|gi|cr|ag)_\w+)")


def check_names(package):
    """L1 and L14: the files of the folder."""
    if len(package.names) > 100:
        yield "L14", package.name, 0, "more than 100 files"
    folders = {name.rpartition("/")[0] for name in package.names}
    for folder in folders:
        if f"{folder}/__init__.py".lstrip("/") not in package.names:
            yield "L14", folder, 0, "a folder without __init__.py"
    for name in package.names:
        stem = name.rpartition("/")[2].removesuffix(".py")
        if not re.fullmatch(r"([a-z0-9_]+/)*[a-z0-9_]+\.py", name):
            yield "L1", name, 0, "no plain name of a .py file"
        for part in name.removesuffix(".py").split("/"):
            barred = part in BARRED_FILES | BARRED_WORDS | ALL_BUILTINS
            if barred or part.startswith(("law_", "test_")):
                yield "L14", name, 0, "a name that is barred"
        if stem == "__main__" or name.removesuffix(".py") in folders:
            yield "L14", name, 0, "a name that is barred here"
    strings = [node.value for source in package.sources for node in source.of(ast.Constant)
               if isinstance(node.value, str)]
    if sum(map(len, strings)) > 2000000:
        yield "L14", package.name, 0, "too many characters in strings"


def check_text(package, source):
    """L10, L14: sizes and characters; L27: no warnings."""
    lines = source.text.split("\n")
    if len(lines) - 1 > 399:
        yield "L10", source.name, len(lines), "more than 399 lines"
    for number, line in enumerate(lines, 1):
        if len(line) > 120:
            yield "L10", source.name, number, "more than 120 characters"
        if "\t" in line:
            yield "L10", source.name, number, "a tab"
        if re.search(r"[^ -~\t]", line):
            yield "L14", source.name, number, "a character that is barred"
        if re.search(r"\b(_wall|_WallAttr)\b", line):
            yield "L12", source.name, number, "a word that is barred"
    with warnings.catch_warnings(record=True) as told:
        warnings.simplefilter("always")
        compile(source.text, source.name, "exec")
    for warning in told:
        yield "L27", source.name, warning.lineno, "Python warns"


def check_words(package, source):
    """L17: the words that stand nowhere but in comments and docstrings."""
    docstrings = {node.lineno for node in source.of(ast.Constant) if is_docstring(source, node)}
    for token in tokenize.generate_tokens(io.StringIO(source.text).readline):
        if token.type == tokenize.COMMENT or token.start[0] in docstrings:
            continue
        for word in re.findall(r"\w+", token.string):
            in_string = token.string != word
            if word in BARRED_WORDS and not (word == "type" and in_string):
                yield "L17", source.name, token.start[0], f"the word {word}"
        if re.search("dataclass|overload|contextmanager", token.string):
            yield "L17", source.name, token.start[0], "a word that is barred"


def check_strings(package, source):
    """L27: what stands in strings."""
    for token in tokenize.generate_tokens(io.StringIO(source.text).readline):
        name = tokenize.tok_name[token.type]
        if name not in ("STRING", "FSTRING_MIDDLE"):
            continue
        escapes = re.findall(r"\\(x?.)", token.string, re.DOTALL)
        is_bytes = re.match("[rR]?[bB]", token.string) is not None
        if [one for one in escapes if one[0] not in "nt\\'\"" and not (is_bytes and one[0] == "x")]:
            yield "L27", source.name, token.start[0], "an escape that is barred"
    for node in source.of(ast.Constant):
        if isinstance(node.value, (str, bytes)):
            text = node.value if isinstance(node.value, str) else node.value.decode("latin-1")
            if "%" in text:
                yield "L27", source.name, node.lineno, "a percent sign in a string"
            if not is_docstring(source, node) and is_hidden(text):
                yield "L27", source.name, node.lineno, "a string that is barred"


def is_hidden(text):
    """Whether a string is one that could name a hidden part of Python."""
    if text.endswith(("._", ".__")) or FRAME_NAME.fullmatch(text):
        return True
    if len(text) > 3 and text.startswith("__") and text.endswith("__"):
        return True
    if "{" in text or ("." in text and " " not in text):
        words = re.findall(r"\w+", text)
        return any(word.startswith("__") or FRAME_NAME.fullmatch(word) for word in words)
    return False
