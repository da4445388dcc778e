"""What of the form's rules L1 to L28 can be seen in a file by itself, told as a list of (rule, row)."""

import ast
import builtins
import re

NODES = """Module FunctionDef arguments arg ClassDef Expr Assign AugAssign AnnAssign If While For Return Break Continue Pass
Raise Try ExceptHandler ImportFrom alias Name Load Store Constant List Tuple Dict Set BinOp UnaryOp BoolOp Compare IfExp
Call keyword Attribute Subscript Slice ListComp comprehension JoinedStr FormattedValue Lambda Add Sub Mult FloorDiv Mod
Pow BitAnd BitOr BitXor LShift RShift Invert USub UAdd Not And Or Eq NotEq Lt LtE Gt GtE Is IsNot In NotIn""".split()

OWN_NAMES = """len range enumerate zip min max sum abs sorted reversed int str bool list tuple dict set frozenset isinstance
ord repr any all divmod Exception ValueError TypeError KeyError IndexError LookupError ZeroDivisionError ArithmeticError
OverflowError RuntimeError NotImplementedError AttributeError StopIteration""".split()

METHODS = """append clear copy count endswith extend find get index insert isalnum isalpha isdigit islower isspace isupper
items join keys ljust lower lstrip partition pop remove replace reverse rfind rjust rpartition rsplit rstrip setdefault
split splitlines startswith strip update upper values zfill bit_length""".split()

DOUBLE = ["__init__", "__eq__", "__repr__", "__str__", "__len__"]

WORDS = """type typing typing_extensions enum Enum IntEnum StrEnum Flag IntFlag Generic Protocol ABC ABCMeta namedtuple
NamedTuple TypedDict TYPE_CHECKING abstractmethod""".split()
PARTS = ["dataclass", "overload", "contextmanager"]
UNUSED = """register mro elements open input version_info with_traceback add_note attrgetter breakpoint builtins compile
copyright credits delattr dir eval exec exit gc getattr globals hasattr help id importlib license locals methodcaller os
quit setattr super vars sys""".split()

KEYWORDS = {"sorted": ["key", "reverse"], "min": ["key", "default"], "max": ["key", "default"], "sum": ["start"],
            "enumerate": ["start"], "zip": ["strict"]}
# The lists and dicts at the top of the package's files.
TABLES = ["ENDINGS", "LOOP", "MARKS"]
WALKED = ["zip", "enumerate", "reversed", "range", "items", "keys", "values"]
WALKERS = ["list", "tuple", "dict", "sorted", "sum", "any", "all", "enumerate", "zip", "min", "max", "join"]

CHANGES = ["append", "clear", "extend", "insert", "pop", "remove", "reverse", "setdefault", "update"]
# Values of objects that may be called like a method of Python's own values.
FREE_VALUES = ["count", "index", "title", "find", "get", "join", "lower", "upper", "split", "strip", "copy", "add"]


def methods_of_python():
    found = set()
    for kind in (str, int, list, tuple, dict, set, frozenset, bytes):
        found.update(name for name in dir(kind) if not name.startswith("__"))
    return found


def faults_of(source):
    """All faults found in a file's text."""
    tree = ast.parse(source)
    for node in ast.walk(tree):
        for child in ast.iter_child_nodes(node):
            child.parent = node
    faults = sign_faults(source) + top_faults(tree)
    for node in ast.walk(tree):
        for look in (node_faults, name_faults, call_faults, place_faults, def_faults, class_faults, use_faults, walk_faults):
            faults.extend((rule, getattr(node, "lineno", 0)) for rule in look(node))
    return faults


def class_faults(node):
    """A class is called, a base, or beside isinstance, except, raise; a list or dict of the top is handed on as a copy."""
    above = getattr(node, "parent", None)
    if not isinstance(node, ast.Name) or not isinstance(node.ctx, ast.Load):
        return
    called = getattr(getattr(above, "func", None), "id", "")
    if re.fullmatch("[A-Z][a-z][A-Za-z]*", node.id) and node.id not in ("None", "True", "False"):
        at_base = isinstance(above, ast.ClassDef) or isinstance(above, ast.Attribute) and above.attr == "__init__"
        asked = isinstance(above, (ast.ExceptHandler, ast.Tuple)) or called in ("isinstance", node.id)
        if not at_base and not asked:
            yield "L18"
    if re.fullmatch("[A-Z][A-Z_]+", node.id) and node.id in TABLES:
        read = isinstance(above, (ast.Subscript, ast.Compare, ast.For, ast.comprehension))
        read = read or isinstance(above, ast.Attribute) and above.attr in ("get", "items", "keys", "values", "index")
        if not read and called not in ("dict", "list", "tuple", "len", "sorted", "sum", "min", "max"):
            yield "L15"


def use_faults(node):
    """Python's own are called where they stand; no annotation; no set of numbers that is kept."""
    above = getattr(node, "parent", None)
    if isinstance(node, ast.AnnAssign) or getattr(node, "annotation", None) or getattr(node, "returns", None):
        yield "L21"
    if isinstance(node, ast.Set) and len(node.elts) > 2 and not isinstance(above, ast.Compare):
        yield "L13"
    called = isinstance(above, ast.Call) and above.func is node or isinstance(above, ast.keyword) and above.arg == "key"
    if isinstance(node, ast.Attribute) and node.attr in METHODS and not called:
        yield "L25"
    if isinstance(node, ast.Name) and node.id in OWN_NAMES and node.id.islower() and not called:
        by_isinstance = above.parent if isinstance(above, ast.Tuple) else above
        if getattr(getattr(by_isinstance, "func", None), "id", "") != "isinstance":
            yield "L22"


def walk_faults(node):
    """What a loop walks by its name is not changed in the loop."""
    if not isinstance(node, ast.For):
        return
    walked = [part.id for part in ast.walk(node.iter) if isinstance(part, ast.Name)]
    if isinstance(node.iter, ast.Call) and getattr(node.iter.func, "id", "") in ("list", "tuple", "sorted", "range"):
        return
    for part in [inner for row in node.body for inner in ast.walk(row)]:
        kept = getattr(part, "value", None)
        if isinstance(kept, ast.Name) and kept.id in walked:
            stored = isinstance(part, ast.Subscript) and isinstance(part.ctx, ast.Store)
            if stored or isinstance(part, ast.Attribute) and part.attr in CHANGES:
                yield "L23"


def members_of(source):
    """(methods, values): the names of the methods of a file's classes, and of what is given to their objects."""
    methods, values = set(), set()
    for node in ast.walk(ast.parse(source)):
        if isinstance(node, ast.ClassDef):
            methods.update(part.name for part in node.body if isinstance(part, ast.FunctionDef))
        if isinstance(node, ast.Attribute) and isinstance(node.ctx, ast.Store):
            values.add(node.attr)
    return methods, values


def sign_faults(source):
    faults = []
    rows = source.split("\n")
    if len(rows) > 401:
        faults.append(("L10", len(rows)))
    for number, row in enumerate(rows, 1):
        if len(row) > 120:
            faults.append(("L10", number))
        if not re.fullmatch("[ -~]*", row):
            faults.append(("L14", number))
        if set(re.findall(r"\w+", row)) & set(WORDS) or any(part in row for part in PARTS):
            faults.append(("L17", number))
    return faults


def top_faults(tree):
    faults, bound = [], []
    for node in tree.body:
        if isinstance(node, (ast.FunctionDef, ast.ClassDef)):
            bound.append(node.name)
        elif isinstance(node, ast.Assign):
            bound.append(node.targets[0].id)
            if isinstance(node.value, (ast.Call, ast.ListComp, ast.Set)):
                faults.append(("L3", node.lineno))
            for inner in ast.walk(node.value):
                if inner is not node.value and isinstance(inner, (ast.List, ast.Dict)):
                    faults.append(("L15", node.lineno))
        elif isinstance(node, ast.ImportFrom):
            bound.extend(alias.name for alias in node.names)
            if node.level or not str(node.module).startswith("knotwise.") or any(a.asname for a in node.names):
                faults.append(("L16", node.lineno))
        elif not (isinstance(node, ast.Expr) and isinstance(node.value, ast.Constant)):
            faults.append(("L3", node.lineno))
    if len(bound) != len(set(bound)):
        faults.append(("L15", 0))
    for node in ast.walk(tree):
        if isinstance(node, ast.arg) or isinstance(node, ast.Name) and isinstance(node.ctx, ast.Store):
            word = node.arg if isinstance(node, ast.arg) else node.id
            inside = not isinstance(node.parent, ast.Assign) or not isinstance(node.parent.parent, ast.Module)
            if inside and (word in bound or hasattr(builtins, word)):
                faults.append(("L15", node.lineno))
    return faults


def node_faults(node):
    if type(node).__name__ not in NODES and not isinstance(node, ast.expr_context):
        yield "L6 or L7"
    if isinstance(node, ast.Constant) and isinstance(node.value, (float, complex, bytes)):
        yield "L7"
    if isinstance(node, ast.Constant) and isinstance(node.value, str) and "%" in node.value:
        yield "L27"
    if isinstance(node, (ast.For, ast.While)) and node.orelse or isinstance(node, ast.Try) and node.finalbody:
        yield "L6"
    if isinstance(node, ast.Assign) and (len(node.targets) > 1 or isinstance(node.targets[0], (ast.Tuple, ast.List))):
        yield "L6"
    if isinstance(node, ast.ListComp) and (len(node.generators) > 1 or len(node.generators[0].ifs) > 1):
        yield "L7"
    if isinstance(node, ast.FormattedValue) and (not isinstance(node.value, ast.Name) or node.format_spec):
        yield "L7"
    if isinstance(node, ast.Compare) and any(isinstance(sign, (ast.Is, ast.IsNot)) for sign in node.ops):
        if not all(isinstance(one, ast.Constant) and one.value in (None, True, False) for one in node.comparators):
            yield "L20"
    if isinstance(node, ast.BinOp) and isinstance(node.op, ast.Pow) and not isinstance(node.right, ast.Constant):
        yield "L27"


def name_faults(node):
    words = []
    if isinstance(node, ast.Name):
        words.append(node.id)
        if hasattr(builtins, node.id) and node.id not in OWN_NAMES:
            yield "L8"
    elif isinstance(node, ast.Attribute):
        words.append(node.attr)
    elif isinstance(node, ast.arg):
        words.append(node.arg)
    elif isinstance(node, (ast.FunctionDef, ast.ClassDef)):
        words.append(node.name)
    for word in words:
        if word.startswith("_") and word not in DOUBLE:
            yield "L12"
        if word in UNUSED:
            yield "L17"


def call_faults(node):
    if isinstance(node, ast.Attribute) and node.attr in methods_of_python() - set(METHODS):
        yield "L25"
    if not isinstance(node, ast.Call):
        return
    called = node.func.id if isinstance(node.func, ast.Name) else getattr(node.func, "attr", "")
    python_s = isinstance(node.func, ast.Name) and called in OWN_NAMES or called in METHODS
    if python_s and any(one.arg not in KEYWORDS.get(called, []) for one in node.keywords):
        yield "L22"
    if called in ("set", "frozenset") and not set_is_asked(node):
        yield "L24"
    if called in WALKED and not walked_at_once(node):
        yield "L23"


def set_is_asked(node):
    above = node.parent
    while isinstance(above, ast.BinOp):
        above = above.parent
    if isinstance(above, ast.Call):
        return isinstance(above.func, ast.Name) and above.func.id in ("sorted", "len") and not above.keywords
    return isinstance(above, ast.Compare)


def walked_at_once(node):
    above = node.parent
    if isinstance(above, (ast.For, ast.comprehension)):
        return above.iter is node
    if isinstance(above, ast.Call) and above.args and above.args[0] is node:
        return getattr(above.func, "id", getattr(above.func, "attr", "")) in WALKERS
    return isinstance(above, ast.Call) and getattr(above.func, "id", "") == "zip"


def place_faults(node):
    if isinstance(node, (ast.ClassDef, ast.ImportFrom)) and not isinstance(node.parent, ast.Module):
        yield "L15 or L2"
    if isinstance(node, ast.ExceptHandler):
        if node.type is None or getattr(node.type, "id", "") in ("Exception", "TypeError"):
            yield "L19"
    if isinstance(node, ast.Raise) and not isinstance(node.exc, ast.Call):
        yield "L19"


def def_faults(node):
    if isinstance(node, (ast.FunctionDef, ast.ClassDef)) and node.decorator_list:
        yield "L4 or L5"
    if isinstance(node, ast.FunctionDef):
        if node.end_lineno - node.lineno >= 40:
            yield "L10"
        if node.args.vararg or node.args.kwarg or node.args.kwonlyargs or node.args.posonlyargs:
            yield "L4"
    if isinstance(node, ast.ClassDef):
        methods = [part.name for part in node.body if isinstance(part, ast.FunctionDef)]
        others = [part for part in node.body if not isinstance(part, (ast.FunctionDef, ast.Expr, ast.Pass))]
        if len(node.bases) > 1 or node.keywords or others or len(methods) != len(set(methods)):
            yield "L5 or L18"
