"""A reader of the package's files that tells where they leave the rules of LANGUAGE.md.

It sees the rules that a file's shape shows; what it doesn't see is still asked for.
"""

import ast
import builtins
import re

PACKAGE = "inkyears"
ALLOWED_NAMES = (
    "len range enumerate zip min max sum abs sorted reversed int str bool list tuple dict set frozenset isinstance "
    "ord repr any all divmod Exception ValueError TypeError KeyError IndexError LookupError ZeroDivisionError "
    "ArithmeticError OverflowError RuntimeError NotImplementedError AttributeError StopIteration"
).split()
METHODS = (
    "append clear copy count endswith extend find get index insert isalnum isalpha isdigit islower isspace isupper "
    "items join keys ljust lower lstrip partition pop remove replace reverse rfind rjust rpartition rsplit rstrip "
    "setdefault split splitlines startswith strip update upper values zfill bit_length __init__"
).split()
DUNDERS = ["__init__", "__eq__", "__repr__", "__str__", "__len__"]
UNUSED_NAMES = "register mro elements open input version_info with_traceback add_note format format_map sys".split()
UNUSED_WORDS = re.compile(
    r"\b(type|typing|typing_extensions|enum|Enum|IntEnum|StrEnum|Flag|IntFlag|Generic|Protocol|ABC|ABCMeta|namedtuple|"
    r"NamedTuple|TypedDict|TYPE_CHECKING|abstractmethod)\b|dataclass|overload|contextmanager"
)
NODES = (
    "Module FunctionDef ClassDef Lambda arguments arg Assign AugAssign If While For Return Break Continue Pass Raise Try "
    "ExceptHandler Expr ImportFrom alias Constant Name Load Store List Tuple Dict Set BinOp UnaryOp BoolOp Compare IfExp "
    "Call keyword Attribute Subscript Slice ListComp comprehension JoinedStr FormattedValue Add Sub Mult FloorDiv Mod Pow "
    "BitAnd BitOr BitXor LShift RShift Invert USub UAdd Not And Or Eq NotEq Lt LtE Gt GtE Is IsNot In NotIn"
).split()

WALKERS = ["list", "tuple", "dict", "sorted", "sum", "any", "all", "enumerate", "zip"]
CHANGES = ["append", "clear", "extend", "insert", "pop", "remove", "reverse", "setdefault", "update"]
KINDS = [str, int, list, tuple, dict, set, bytes]
VALUES = ["count", "index", "title", "find", "get", "join", "lower", "upper", "split", "strip", "copy", "add"]


def file_faults(text):
    for number, line in enumerate(text.split("\n"), 1):
        if len(line) > 120:
            yield "L10", number
        if any(not " " <= sign <= "~" for sign in line):
            yield "L14", number
        if UNUSED_WORDS.search(line):
            yield "L17", number
    if text.count("\n") > 400:
        yield "L10", 400


def holds_a_list(node):
    return any(isinstance(part, (ast.List, ast.Dict)) for part in ast.walk(node) if part is not node)


def is_plain(node):
    if isinstance(node, (ast.List, ast.Tuple)):
        return all(is_plain(part) for part in node.elts)
    if isinstance(node, ast.Dict):
        return all(is_plain(part) for part in node.keys + node.values)
    if isinstance(node, ast.UnaryOp):
        return isinstance(node.op, ast.USub) and isinstance(node.operand, ast.Constant)
    return isinstance(node, (ast.Constant, ast.Name))


def is_text_row(node):
    return isinstance(node, ast.Expr) and isinstance(node.value, ast.Constant)


def top_faults(tree):
    bound = []
    for place, node in enumerate(tree.body):
        if isinstance(node, (ast.FunctionDef, ast.ClassDef)):
            bound.append(node.name)
        elif isinstance(node, ast.ImportFrom):
            bound.extend(part.asname or part.name for part in node.names)
        elif isinstance(node, ast.Assign) and isinstance(node.targets[0], ast.Name) and is_plain(node.value):
            bound.append(node.targets[0].id)
            if isinstance(node.value, (ast.List, ast.Dict)) and holds_a_list(node.value):
                yield "L15", node.lineno
        elif not (place == 0 and is_text_row(node)):
            yield "L3", node.lineno
        if len(set(bound)) < len(bound):
            yield "L15", node.lineno
            bound = list(set(bound))


def name_faults(node):
    names = [getattr(node, "id", None), getattr(node, "name", None), getattr(node, "arg", None)]
    for name in [name for name in names if name] + ([node.attr] if isinstance(node, ast.Attribute) else []):
        if not re.fullmatch("[A-Za-z][A-Za-z0-9_]*", name) and name not in DUNDERS:
            yield "L12", node.lineno
        if name in UNUSED_NAMES:
            yield "L17", node.lineno
    if isinstance(node, ast.Name) and isinstance(node.ctx, ast.Load):
        if hasattr(builtins, node.id) and node.id not in ALLOWED_NAMES:
            yield "L8", node.lineno
    bound = node.id if isinstance(node, ast.Name) and isinstance(node.ctx, ast.Store) else None
    if hasattr(builtins, bound or (node.arg if isinstance(node, ast.arg) else "") or "plain"):
        yield "L15", node.lineno


def block_faults(node):
    if isinstance(node, (ast.FunctionDef, ast.Lambda)):
        if node.args.vararg or node.args.kwarg or node.args.kwonlyargs or node.args.posonlyargs:
            yield "L4", node.lineno
        if any(part.annotation for part in node.args.args):
            yield "L21", node.lineno
    if isinstance(node, ast.FunctionDef):
        if node.end_lineno - node.lineno + 1 > 40:
            yield "L10", node.lineno
        if node.decorator_list or node.returns:
            yield "L4", node.lineno
    if isinstance(node, ast.ClassDef):
        if node.decorator_list or node.keywords or len(node.bases) > 1:
            yield "L5", node.lineno
        if not all(isinstance(part, (ast.FunctionDef, ast.Pass)) for part in node.body):
            yield "L5", node.lineno


def row_faults(node):
    if isinstance(node, ast.ImportFrom):
        if node.level or not node.module.startswith(PACKAGE + ".") or any(part.name == "*" for part in node.names):
            yield "L2", node.lineno
    if isinstance(node, ast.Assign) and len(node.targets) != 1:
        yield "L6", node.lineno
    if isinstance(node, (ast.For, ast.While)) and node.orelse or isinstance(node, ast.Try) and node.finalbody:
        yield "L6", node.lineno
    if isinstance(node, ast.Expr) and not isinstance(node.value, ast.Call) and not (is_text_row(node) and node.lineno == 1):
        yield "L6", node.lineno
    if isinstance(node, ast.ExceptHandler):
        if node.type is None or any(getattr(part, "id", "") in ("Exception", "TypeError") for part in ast.walk(node.type)):
            yield "L19", node.lineno


def is_none_or_truth(node):
    return isinstance(node, ast.Constant) and (node.value is None or isinstance(node.value, bool))


def value_faults(node):
    if isinstance(node, ast.Constant):
        if not isinstance(node.value, (int, str)) and node.value is not None:
            yield "L7", node.lineno
        if isinstance(node.value, str) and "%" in node.value:
            yield "L27", node.lineno
    if isinstance(node, ast.ListComp):
        if len(node.generators) != 1 or len(node.generators[0].ifs) > 1:
            yield "L7", node.lineno
    if isinstance(node, ast.Compare):
        for kind, right in zip(node.ops, node.comparators):
            if isinstance(kind, (ast.Is, ast.IsNot)) and not is_none_or_truth(right):
                yield "L20", node.lineno
    if isinstance(node, ast.BinOp) and isinstance(node.op, ast.Pow) and not isinstance(node.right, ast.Constant):
        yield "L27", node.lineno


def is_call_of(node, names):
    return isinstance(node, ast.Call) and isinstance(node.func, ast.Name) and node.func.id in names


def stands_as_a_class(node, above):
    """Whether a class, or a name of Python's own, is called, a base, or by isinstance, except, raise, or as a key."""
    if isinstance(above, ast.Tuple):
        return True
    if is_call_of(above, ["isinstance"]):
        return node in (above.func, above.args[1])
    if isinstance(above, ast.Call):
        return node is above.func
    if isinstance(above, ast.Attribute):
        return above.attr == "__init__"
    return isinstance(above, (ast.ClassDef, ast.ExceptHandler, ast.Raise)) or getattr(above, "arg", "") == "key"


def is_walked(node, above):
    if isinstance(above, (ast.For, ast.comprehension)):
        return node is above.iter
    if is_call_of(above, WALKERS):
        return node is above.args[0]
    if is_call_of(above, ["min", "max"]):
        return len(above.args) == 1
    return isinstance(above, ast.Call) and getattr(above.func, "attr", "") == "join"


def is_set_in_place(node, parents):
    above = parents[node]
    while isinstance(above, ast.BinOp):
        above = parents[above]
    return isinstance(above, ast.Compare) or is_call_of(above, ["sorted", "len"]) and not above.keywords


def changed_in(loop):
    for node in ast.walk(ast.Module(loop.body, [])):
        if isinstance(node, ast.Subscript) and isinstance(node.ctx, ast.Store):
            yield ast.dump(node.value)
        if isinstance(node, ast.Call) and isinstance(node.func, ast.Attribute) and node.func.attr in CHANGES:
            yield ast.dump(node.func.value)


def use_faults(tree):
    parents = {part: node for node in ast.walk(tree) for part in ast.iter_child_nodes(node)}
    classes = [name for row in tree.body if isinstance(row, ast.ImportFrom) for name in [part.name for part in row.names]]
    classes = [name for name in classes if re.fullmatch("[A-Z].*[a-z].*", name)]
    classes += [node.name for node in tree.body if isinstance(node, ast.ClassDef)]
    for node in ast.walk(tree):
        if isinstance(node, ast.Name) and isinstance(node.ctx, ast.Load) and not stands_as_a_class(node, parents[node]):
            if node.id in classes:
                yield "L18", node.lineno
            if node.id in ALLOWED_NAMES:
                yield "L22", node.lineno
        named = isinstance(node, ast.Call) and getattr(node.func, "attr", "") in ("items", "keys", "values")
        if (named or is_call_of(node, ["zip", "enumerate", "reversed", "range"])) and not is_walked(node, parents[node]):
            yield "L23", node.lineno
        if isinstance(node, ast.For) and ast.dump(node.iter) in list(changed_in(node)):
            yield "L23", node.lineno
        if (isinstance(node, ast.Set) or is_call_of(node, ["set"])) and not is_set_in_place(node, parents):
            yield "L24", node.lineno
        if isinstance(node, ast.Attribute) and isinstance(node.ctx, ast.Store):
            if any(hasattr(kind, node.attr) for kind in KINDS) and node.attr not in VALUES:
                yield "L26", node.lineno


def local_faults(tree):
    rows = [node for node in tree.body if isinstance(node, ast.ImportFrom)]
    taken = [part.name for row in rows for part in row.names]
    taken += [node.name for node in tree.body if isinstance(node, ast.ClassDef)]
    for node in ast.walk(tree):
        stored = isinstance(node, ast.Name) and isinstance(node.ctx, ast.Store)
        if stored and node.id in taken or isinstance(node, ast.arg) and node.arg in taken:
            yield "L15", node.lineno


def faults_of(text, own_methods=()):
    tree = ast.parse(text)
    found = list(file_faults(text)) + list(top_faults(tree)) + list(use_faults(tree)) + list(local_faults(tree))
    for node in ast.walk(tree):
        if node.__class__.__name__ not in NODES:
            found.append(("L6 or L7", getattr(node, "lineno", 0)))
        for faults in [name_faults, block_faults, row_faults, value_faults]:
            found.extend(faults(node))
        if isinstance(node, ast.Call) and isinstance(node.func, ast.Attribute):
            if node.func.attr not in METHODS and node.func.attr not in own_methods:
                found.append(("L25", node.lineno))
    return found


def methods_of(text):
    classes = [node for node in ast.parse(text).body if isinstance(node, ast.ClassDef)]
    return [part.name for node in classes for part in node.body if isinstance(part, ast.FunctionDef)]


def values_of(text):
    nodes = [node for node in ast.walk(ast.parse(text)) if isinstance(node, ast.Attribute)]
    return [node.attr for node in nodes if isinstance(node.ctx, ast.Store)]


def drawn_from(text):
    rows = [node for node in ast.parse(text).body if isinstance(node, ast.ImportFrom)]
    return [(node.module, part.name) for node in rows for part in node.names]


def defined_in(text):
    names = []
    for node in ast.parse(text).body:
        if isinstance(node, (ast.FunctionDef, ast.ClassDef)):
            names.append(node.name)
        elif isinstance(node, ast.Assign):
            names.append(node.targets[0].id)
    return names
