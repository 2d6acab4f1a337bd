"""Finds where a file of the package leaves the part of Python that it keeps to (the rules L1 to L28).

It doesn't see all that the rules ask for, only what can be told from one file's shape."""

import ast
import builtins
import re

OWN_NAMES = set("""len range enumerate zip min max sum abs sorted reversed int str bool list tuple dict set frozenset
    isinstance ord repr any all divmod Exception ValueError TypeError KeyError IndexError LookupError
    ZeroDivisionError ArithmeticError OverflowError RuntimeError NotImplementedError AttributeError
    StopIteration""".split())
OWN_METHODS = set("""append clear copy count endswith extend find get index insert isalnum isalpha isdigit islower
    isspace isupper items join keys ljust lower lstrip partition pop remove replace reverse rfind rjust rpartition
    rsplit rstrip setdefault split splitlines startswith strip update upper values zfill bit_length""".split())
KEYWORDS = {"sorted": {"key", "reverse"}, "min": {"key", "default"}, "max": {"key", "default"},
            "sum": {"start"}, "enumerate": {"start"}, "zip": {"strict"}}
DUNDERS = {"__init__", "__eq__", "__repr__", "__str__", "__len__"}
WALKED = {"zip", "enumerate", "reversed", "range"}
WALKERS = {"list", "tuple", "dict", "sorted", "sum", "any", "all", "enumerate", "zip", "min", "max"}
NOT_USED = set("register mro elements open input version_info with_traceback add_note format format_map".split())
NO_WORDS = set("""type typing typing_extensions enum Enum IntEnum StrEnum Flag IntFlag Generic Protocol ABC ABCMeta
    namedtuple NamedTuple TypedDict TYPE_CHECKING abstractmethod""".split())
NO_PIECES = ["dataclass", "overload", "contextmanager"]
STATEMENTS = (ast.Assign, ast.AugAssign, ast.If, ast.While, ast.For, ast.Return, ast.Break, ast.Continue, ast.Pass,
              ast.Raise, ast.Try, ast.Expr, ast.FunctionDef, ast.ClassDef, ast.ImportFrom)
EXPRESSIONS = (ast.Constant, ast.List, ast.Tuple, ast.Dict, ast.BinOp, ast.UnaryOp, ast.BoolOp, ast.Compare,
               ast.IfExp, ast.Call, ast.Attribute, ast.Subscript, ast.Slice, ast.ListComp, ast.JoinedStr,
               ast.FormattedValue, ast.Name, ast.Lambda)


def faults_in(source):
    tree = ast.parse(source)
    parents = {child: node for node in ast.walk(tree) for child in ast.iter_child_nodes(node)}
    found = text_faults(source) + top_faults(tree) + name_faults(tree)
    for node in ast.walk(tree):
        found.extend([(rule, getattr(node, "lineno", 0)) for rule in node_faults(node, parents)])
    return sorted(set(found))


def methods_and_values(source):
    """The names that classes of a file have as methods, and those that objects have as values."""
    tree = ast.parse(source)
    classes = [node for node in tree.body if isinstance(node, ast.ClassDef)]
    methods = {part.name for node in classes for part in node.body if isinstance(part, ast.FunctionDef)}
    attributes = [node for node in ast.walk(tree) if isinstance(node, ast.Attribute)]
    return methods, {node.attr for node in attributes if isinstance(node.ctx, ast.Store)}


def text_faults(source):
    found = []
    lines = source.split("\n")
    if len(lines) > 401:
        found.append(("L10", len(lines)))
    for number, line in enumerate(lines, start=1):
        if len(line) > 120:
            found.append(("L10", number))
        if any(not " " <= sign <= "~" for sign in line):
            found.append(("L14", number))
        if NO_WORDS & set(re.findall(r"\w+", line)) or any(piece in line for piece in NO_PIECES):
            found.append(("L17", number))
    return found


def top_faults(tree):
    found = []
    bound = []
    for place, node in enumerate(tree.body):
        docstring = place == 0 and isinstance(node, ast.Expr) and isinstance(node.value, ast.Constant)
        if isinstance(node, (ast.FunctionDef, ast.ClassDef)):
            bound.append(node.name)
        elif isinstance(node, ast.ImportFrom):
            bound.extend([alias.asname or alias.name for alias in node.names])
        elif isinstance(node, ast.Assign):
            bound.extend([target.id for target in node.targets if isinstance(target, ast.Name)])
        elif not docstring:
            found.append(("L3", node.lineno))
    return found + [("L15", 0) for name in bound if bound.count(name) > 1]


def name_faults(tree):
    bound = {node.id for node in ast.walk(tree) if isinstance(node, ast.Name) and isinstance(node.ctx, ast.Store)}
    bound |= {node.arg for node in ast.walk(tree) if isinstance(node, ast.arg)}
    bound |= {node.name for node in ast.walk(tree) if isinstance(node, ast.ExceptHandler) and node.name}
    defined = {node.name for node in ast.walk(tree) if isinstance(node, (ast.FunctionDef, ast.ClassDef))}
    fixed = {node.name for node in tree.body if isinstance(node, (ast.FunctionDef, ast.ClassDef))}
    for node in tree.body:
        if isinstance(node, ast.ImportFrom):
            fixed |= {alias.name for alias in node.names}
    found = [("L15", 0) for name in bound if name in fixed or hasattr(builtins, name)]
    found += [("L12", 0) for name in bound | fixed | defined - DUNDERS if not re.fullmatch(r"[A-Za-z]\w*", name)]
    for node in ast.walk(tree):
        if isinstance(node, ast.Name) and node.id not in bound | fixed | defined | OWN_NAMES:
            found.append(("L8", node.lineno))
    return found


def node_faults(node, parents):
    if isinstance(node, ast.stmt) and not isinstance(node, STATEMENTS):
        return ["L6"]
    if isinstance(node, ast.expr) and not isinstance(node, EXPRESSIONS + (ast.Set,)):
        return ["L7"]
    checks = {ast.FunctionDef: function_faults, ast.ClassDef: class_faults, ast.Call: call_faults,
              ast.ImportFrom: import_faults, ast.Attribute: attribute_faults, ast.Constant: constant_faults,
              ast.Compare: compare_faults, ast.ListComp: listing_faults, ast.ExceptHandler: handler_faults,
              ast.Assign: assign_faults, ast.Expr: single_faults, ast.BinOp: sum_faults}
    for kind, check in checks.items():
        if isinstance(node, kind):
            return check(node, parents)
    if isinstance(node, (ast.For, ast.While)) and node.orelse or isinstance(node, ast.Try) and node.finalbody:
        return ["L6"]
    return []


def function_faults(node, parents):
    found = []
    given = [part for part in ast.walk(node) if isinstance(part, ast.Return) and part.value]
    if node.name == "__init__" and given:
        found.append("L28")
    plain = node.args
    if plain.vararg or plain.kwarg or plain.kwonlyargs or plain.posonlyargs or node.decorator_list:
        found.append("L4")
    if node.end_lineno - node.lineno >= 40:
        found.append("L10")
    if node.returns or any(arg.annotation for arg in plain.args):
        found.append("L21")
    return found


def class_faults(node, parents):
    methods = [part for part in node.body if isinstance(part, ast.FunctionDef)]
    others = [part for part in node.body if not isinstance(part, (ast.FunctionDef, ast.Pass))]
    if len(node.bases) > 1 or node.keywords or node.decorator_list or others:
        return ["L5"]
    if any(part.name.startswith("__") and part.name not in DUNDERS for part in methods):
        return ["L5"]
    return [] if isinstance(parents[node], ast.Module) else ["L15"]


def call_faults(node, parents):
    called = node.func.id if isinstance(node.func, ast.Name) else ""
    parent = parents[node]
    within = parent.func.id if isinstance(parent, ast.Call) and isinstance(parent.func, ast.Name) else ""
    found = []
    if called in OWN_NAMES and {word.arg for word in node.keywords} - KEYWORDS.get(called, set()):
        found.append("L22")
    if called in WALKED and not isinstance(parent, (ast.For, ast.comprehension)) and within not in WALKERS:
        found.append("L23")
    beside = isinstance(parent, (ast.Compare, ast.BinOp)) or within in ("sorted", "len") and not parent.keywords
    if called in ("set", "frozenset") and not beside:
        found.append("L24")
    return found


def import_faults(node, parents):
    named = [alias.name for alias in node.names]
    future = node.module == "__future__"
    if node.level or "*" in named or not (future or node.module.startswith("talkmarks.")):
        return ["L2"]
    return [] if isinstance(parents[node], ast.Module) else ["L2"]


def attribute_faults(node, parents):
    if node.attr in NOT_USED:
        return ["L17"]
    if node.attr.startswith("_"):
        return [] if node.attr == "__init__" else ["L8"]
    foreign = any(hasattr(kind, node.attr) for kind in (str, int, list, tuple, dict, set))
    return ["L25"] if foreign and node.attr not in OWN_METHODS | {"add", "discard", "title"} else []


def constant_faults(node, parents):
    if isinstance(node.value, (float, bytes, complex)) or node.value is Ellipsis:
        return ["L7"]
    return ["L27"] if isinstance(node.value, str) and "%" in node.value else []


def compare_faults(node, parents):
    for sign, side in zip(node.ops, node.comparators):
        if isinstance(sign, (ast.Is, ast.IsNot)):
            if not (isinstance(side, ast.Constant) and (side.value is None or isinstance(side.value, bool))):
                return ["L20"]
    return []


def listing_faults(node, parents):
    return ["L7"] if len(node.generators) > 1 or len(node.generators[0].ifs) > 1 else []


def handler_faults(node, parents):
    broad = {"Exception", "TypeError"}
    named = {part.id for part in ast.walk(node.type) if isinstance(part, ast.Name)} if node.type else broad
    return ["L19"] if named & broad else []


def assign_faults(node, parents):
    return ["L6"] if len(node.targets) > 1 else []


def single_faults(node, parents):
    docstring = isinstance(node.value, ast.Constant) and isinstance(parents[node], ast.Module)
    return [] if docstring or isinstance(node.value, ast.Call) else ["L6"]


def sum_faults(node, parents):
    return ["L7"] if isinstance(node.op, (ast.Div, ast.MatMult)) else []
