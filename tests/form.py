"""Finds what in a package's file lies outside the part of Python that the program keeps to.

It sees only what can be seen in a file's tree and words; each finding begins with the rule's number.
"""

import ast
import builtins
import re

OWN_NAMES = set(
    "len range enumerate zip min max sum abs sorted reversed int str bool list tuple dict set frozenset isinstance "
    "ord repr any all divmod Exception ValueError TypeError KeyError IndexError LookupError ZeroDivisionError "
    "ArithmeticError OverflowError RuntimeError NotImplementedError AttributeError StopIteration".split()
)
OWN_METHODS = set(
    "append clear copy count endswith extend find get index insert isalnum isalpha isdigit islower isspace isupper "
    "items join keys ljust lower lstrip partition pop remove replace reverse rfind rjust rpartition rsplit rstrip "
    "setdefault split splitlines startswith strip update upper values zfill bit_length add discard title".split()
)
DOUBLE = {"__init__", "__eq__", "__repr__", "__str__", "__len__"}
BARRED_NAMES = set(
    "register mro elements open input version_info with_traceback add_note attrgetter breakpoint builtins compile "
    "copyright credits delattr dir eval exec exit gc getattr globals hasattr help id importlib license locals "
    "methodcaller os quit setattr super vars sys chr print".split()
)
BARRED_WORDS = set(
    "type typing typing_extensions enum Enum IntEnum StrEnum Flag IntFlag Generic Protocol ABC ABCMeta namedtuple "
    "NamedTuple TypedDict TYPE_CHECKING abstractmethod".split()
)
BARRED_PARTS = ("dataclass", "overload", "contextmanager")
NODES = set(
    "Module Import ImportFrom alias FunctionDef ClassDef arguments arg Lambda Return Assign AugAssign AnnAssign For "
    "While If Raise Try ExceptHandler Expr Pass Break Continue BoolOp And Or BinOp UnaryOp IfExp Dict Set ListComp "
    "comprehension Compare Call keyword FormattedValue JoinedStr Constant Attribute Subscript Name List Tuple Slice "
    "Load Store Add Sub Mult FloorDiv Mod Pow LShift RShift BitOr BitXor BitAnd Invert Not UAdd USub Eq NotEq Lt LtE "
    "Gt GtE Is IsNot In NotIn".split()
)
PYTHONS = {
    name
    for kind in (str, int, list, tuple, dict, set, bytes)
    for name in dir(kind)
    if not name.startswith("__")
}


def findings(text):
    return word_findings(text) + [row for node in ast.walk(ast.parse(text)) for row in node_findings(node)]


def word_findings(text):
    found = []
    if re.search(r"[^ -~\n]", text):
        found.append("L14 a sign out of range")
    rows = text.splitlines()
    if len(rows) > 400:
        found.append("L10 a file of more than 400 lines")
    found += [f"L10 line {k + 1} is too long" for k, row in enumerate(rows) if len(row) > 120]
    words = set(re.findall(r"\w+", text))
    found += [f"L17 the word {word}" for word in sorted(words & BARRED_WORDS)]
    found += [f"L17 the word {part}" for part in BARRED_PARTS if part in text]
    return found


def node_findings(node):
    kind = node.__class__.__name__
    place = f"at line {getattr(node, 'lineno', '?')}"
    if kind not in NODES:
        return [f"L6/L7 {kind} {place}"]
    check = CHECKS.get(kind)
    return [f"{row} {place}" for row in check(node)] if check else []


def plain_name(name):
    if name in DOUBLE or re.fullmatch(r"[A-Za-z][A-Za-z0-9_]*", name):
        return []
    return [f"L12 the name {name}"]


def function(node):
    found = plain_name(node.name)
    if node.end_lineno - node.lineno + 1 > 40:
        found.append("L10 a function of more than 40 lines")
    if node.decorator_list:
        found.append("L4 a decorator")
    return found


def parameters(node):
    found = []
    if node.vararg or node.kwarg or node.kwonlyargs or node.posonlyargs:
        found.append("L4 other than plain parameters")
    for given in node.args:
        found += plain_name(given.arg)
        if hasattr(builtins, given.arg):
            found.append(f"L15 a parameter called {given.arg}")
    return found


def class_body(node):
    found = plain_name(node.name)
    if len(node.bases) > 1 or node.keywords or node.decorator_list:
        found.append("L5 more than one base, or a decorator")
    docstring = ast.get_docstring(node, clean=False)
    for child in node.body:
        if isinstance(child, (ast.FunctionDef, ast.Pass)):
            continue
        if not (isinstance(child, ast.Expr) and isinstance(child.value, ast.Constant) and child.value.value == docstring):
            found.append("L5 a value in a class body")
    return found


def name(node):
    found = plain_name(node.id)
    if node.id in BARRED_NAMES:
        found.append(f"L17 the name {node.id}")
    if hasattr(builtins, node.id):
        if isinstance(node.ctx, ast.Store):
            found.append(f"L15 a local called {node.id}")
        elif node.id not in OWN_NAMES:
            found.append(f"L8 the name {node.id}")
    return found


def attribute(node):
    found = plain_name(node.attr)
    if node.attr in PYTHONS and node.attr not in OWN_METHODS:
        found.append(f"L25/L26 the method {node.attr}")
    return found


def import_row(node):
    own = node.level == 0 and (node.module or "").startswith("layerdraw.")
    if not own or any(row.name == "*" for row in node.names):
        return ["L2 an import from elsewhere"]
    return []


def constant(node):
    if isinstance(node.value, (float, complex, bytes)):
        return ["L7 a value of another kind"]
    if isinstance(node.value, str) and "%" in node.value:
        return ["L27 a percent sign in a text"]
    return []


def operation(node):
    exponent = node.right
    if isinstance(node.op, ast.Pow) and not (isinstance(exponent, ast.Constant) and exponent.value in range(65)):
        return ["L27 an exponent that is not written"]
    return []


def comparison(node):
    for op, side in zip(node.ops, node.comparators):
        plain = isinstance(side, ast.Constant) and (side.value is None or isinstance(side.value, bool))
        if isinstance(op, (ast.Is, ast.IsNot)) and not plain:
            return ["L20 is"]
    return []


CHECKS = {
    "FunctionDef": function,
    "arguments": parameters,
    "ClassDef": class_body,
    "Name": name,
    "Attribute": attribute,
    "Import": lambda node: ["L16 an import row of the other form"],
    "ImportFrom": import_row,
    "Constant": constant,
    "BinOp": operation,
    "Compare": comparison,
    "Assign": lambda node: ["L6 more than one target"] if len(node.targets) > 1 else [],
    "Try": lambda node: ["L6 finally"] if node.finalbody else [],
    "For": lambda node: ["L6 else behind a loop"] if node.orelse else [],
    "While": lambda node: ["L6 else behind a loop"] if node.orelse else [],
    "ListComp": lambda node: ["L7 more than one for"] if len(node.generators) > 1 else [],
    "comprehension": lambda node: ["L7 more than one if"] if len(node.ifs) > 1 else [],
    "ExceptHandler": lambda node: [] if node.type else ["L6 except without a class"],
}
