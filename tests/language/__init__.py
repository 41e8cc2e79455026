"""A checker of the rules of the language that the package is written in (L1 to L28).

It bars more than the rules do where that makes it shorter: what the package
does not use (`match`, `with`, `yield`, annotations, properties ..) is barred
whole. What it bars too much may be let in here once the package needs it.
"""
