"""All complaints about a package."""

import pathlib

from tests.language import calls, files, names, syntax
from tests.language.source import Package

OF_PACKAGES = (files.check_names, names.check_circles)
OF_FILES = (
    files.check_text, files.check_words, files.check_strings,
    names.check_plain, names.check_once, names.check_known, names.check_imports,
    names.check_library, names.check_tables, names.check_members,
    syntax.check_nodes, syntax.check_module, syntax.check_functions, syntax.check_classes,
    syntax.check_statements, syntax.check_expressions,
    calls.check_builtins, calls.check_calls, calls.check_methods, calls.check_iteration,
    calls.check_sets, calls.check_errors_made)


def read(folder):
    """The files of a folder, but for what Python keeps there itself."""
    folder = pathlib.Path(folder)
    return {path.relative_to(folder).as_posix(): path.read_bytes().decode("utf-8")
            for path in sorted(folder.rglob("*"))
            if path.is_file() and "__pycache__" not in path.parts}


def complaints(name, texts):
    """The tuples (rule, file, line, words) for the files of a package."""
    package = Package(name, texts)
    found = [one for check in OF_PACKAGES for one in check(package)]
    for source in package.sources:
        for check in OF_FILES:
            found.extend(check(package, source))
    return sorted(found)
