"""Holds a package's files against the rules of LANGUAGE.md, as far as a file alone shows them."""

import ast
import builtins
import re

OWN = (
    "len range enumerate zip min max sum abs sorted reversed int str bool list tuple dict set frozenset isinstance "
    "ord repr any all divmod"
).split()
ERRORS = (
    "Exception ValueError TypeError KeyError IndexError LookupError ZeroDivisionError ArithmeticError OverflowError "
    "RuntimeError NotImplementedError AttributeError StopIteration"
).split()
METHODS = (
    "append clear copy count endswith extend find get index insert isalnum isalpha isdigit islower isspace isupper "
    "items join keys ljust lower lstrip partition pop remove replace reverse rfind rjust rpartition rsplit rstrip "
    "setdefault split splitlines startswith strip update upper values zfill bit_length"
).split()
CHANGING = "append clear extend insert pop remove reverse setdefault update".split()
DUNDERS = ("__init__", "__eq__", "__repr__", "__str__", "__len__")
LAZY = ("zip", "enumerate", "reversed", "range")
LAZY_METHODS = ("items", "keys", "values")
WALKERS = ("list", "tuple", "dict", "sorted", "sum", "any", "all", "enumerate", "zip", "min", "max")
NEVER = "register mro elements open input version_info with_traceback add_note format format_map".split()
NEVER_NAMES = (
    "attrgetter breakpoint builtins compile copyright credits delattr dir eval exec exit gc getattr globals hasattr "
    "help id importlib license locals methodcaller os quit setattr super type vars sys __name__"
).split()
NEVER_WORDS = (
    "type typing typing_extensions enum Enum IntEnum StrEnum Flag IntFlag Generic Protocol ABC ABCMeta namedtuple "
    "NamedTuple TypedDict TYPE_CHECKING abstractmethod"
).split()
NEVER_WITHIN = ("dataclass", "overload", "contextmanager")
STATEMENTS = (
    ast.Assign, ast.AugAssign, ast.If, ast.While, ast.For, ast.Return, ast.Break, ast.Continue, ast.Pass, ast.Raise,
    ast.Try, ast.Expr, ast.FunctionDef, ast.ClassDef, ast.ImportFrom,
)
EXPRESSIONS = (
    ast.Constant, ast.List, ast.Tuple, ast.Dict, ast.BinOp, ast.UnaryOp, ast.BoolOp, ast.Compare, ast.IfExp, ast.Call,
    ast.Attribute, ast.Subscript, ast.Slice, ast.ListComp, ast.JoinedStr, ast.FormattedValue, ast.Name, ast.Lambda,
)


def faults_of_text(text):
    faults = []
    lines = text.split("\n")
    if len(lines) > 401:
        faults.append(("L10", 401))
    for number, line in enumerate(lines, start=1):
        if len(line) > 120:
            faults.append(("L10", number))
        if any(not " " <= sign <= "~" for sign in line):
            faults.append(("L14", number))
        for word in re.findall(r"\w+", line):
            if word in NEVER_WORDS or any(part in word for part in NEVER_WITHIN):
                faults.append(("L17", number))
    return faults


def faults_of_node(node):
    if isinstance(node, ast.stmt) and not isinstance(node, STATEMENTS):
        return "L6"
    if isinstance(node, ast.expr) and not isinstance(node, EXPRESSIONS):
        return "L7"
    if isinstance(node, ast.Expr) and not isinstance(node.value, ast.Call):
        return "L6"
    if isinstance(node, (ast.For, ast.While)) and node.orelse or isinstance(node, ast.Try) and node.finalbody:
        return "L6"
    if isinstance(node, ast.Assign) and len(node.targets) != 1:
        return "L6"
    if isinstance(node, ast.Div):
        return "L7"
    if isinstance(node, ast.Constant):
        return fault_of_constant(node.value)
    if isinstance(node, ast.ListComp) and (len(node.generators) != 1 or len(node.generators[0].ifs) > 1):
        return "L7"
    if isinstance(node, ast.FormattedValue) and (not isinstance(node.value, ast.Name) or node.format_spec):
        return "L7"
    if isinstance(node, ast.Compare) and any(isinstance(op, (ast.Is, ast.IsNot)) for op in node.ops):
        last = node.comparators[-1]
        return None if isinstance(last, ast.Constant) and last.value in (None, True, False) else "L20"
    if isinstance(node, ast.BinOp) and isinstance(node.op, ast.Pow) and not isinstance(node.right, ast.Constant):
        return "L27"
    if isinstance(node, ast.Raise) and not isinstance(node.exc, ast.Call):
        return "L19"
    if isinstance(node, ast.ExceptHandler):
        return fault_of_handler(node)
    if isinstance(node, (ast.FunctionDef, ast.Lambda)):
        return fault_of_def(node)
    if isinstance(node, ast.ClassDef):
        return fault_of_class(node)
    return None


def fault_of_constant(value):
    if isinstance(value, (float, complex, bytes)) or value is ...:
        return "L7"
    if isinstance(value, str) and "%" in value:
        return "L27"
    return None


def fault_of_handler(node):
    if not isinstance(node.type, ast.Name):
        return "L19"
    if node.type.id in ERRORS and node.type.id not in ("KeyError", "ZeroDivisionError", "StopIteration"):
        return "L19"
    return None


def fault_of_def(node):
    told = node.args
    if told.vararg or told.kwarg or told.kwonlyargs or told.posonlyargs:
        return "L4"
    if isinstance(node, ast.Lambda):
        return None
    if node.decorator_list:
        return "L4"
    if node.returns or any(one.annotation for one in told.args):
        return "L21"
    if node.end_lineno - node.lineno + 1 > 40:
        return "L10"
    return None


def fault_of_class(node):
    if len(node.bases) > 1 or node.keywords or node.decorator_list:
        return "L5"
    if any(not isinstance(part, (ast.FunctionDef, ast.Pass)) for part in node.body):
        return "L5"
    methods = [part.name for part in node.body if isinstance(part, ast.FunctionDef)]
    if len(methods) != len(set(methods)):
        return "L18"
    return None


def names_bound(tree):
    """Each (name, node) that is bound anywhere: defs, classes, params, locals."""
    told = []
    for node in ast.walk(tree):
        if isinstance(node, (ast.FunctionDef, ast.ClassDef)):
            told.append((node.name, node))
        elif isinstance(node, ast.arg):
            told.append((node.arg, node))
        elif isinstance(node, ast.Name) and isinstance(node.ctx, ast.Store):
            told.append((node.id, node))
        elif isinstance(node, ast.ExceptHandler) and node.name:
            told.append((node.name, node))
    return told


def faults_of_names(tree):
    faults = []
    imported = [one.name for node in tree.body if isinstance(node, ast.ImportFrom) for one in node.names]
    classes = [node.name for node in tree.body if isinstance(node, ast.ClassDef)]
    methods = [part for node in tree.body if isinstance(node, ast.ClassDef) for part in node.body]
    for name, node in names_bound(tree):
        if not re.fullmatch("[A-Za-z][A-Za-z0-9_]*", name) and not (node in methods and name in DUNDERS):
            faults.append(("L12", node.lineno))
        if node in methods:
            continue
        if name in dir(builtins) or name in NEVER + NEVER_NAMES:
            faults.append(("L15", node.lineno))
        if not isinstance(node, ast.ClassDef) and name in imported + classes:
            faults.append(("L15", node.lineno))
    for node in ast.walk(tree):
        if isinstance(node, ast.Name) and (node.id in NEVER + NEVER_NAMES or node.id not in OWN + ERRORS
                                           and node.id in dir(builtins)):
            faults.append(("L8", node.lineno))
        if isinstance(node, ast.Attribute) and node.attr in NEVER:
            faults.append(("L17", node.lineno))
    return faults


def faults_of_calls(tree, own):
    """L23, L24, L25: Python's own methods, and what is walked on the spot."""
    faults = []
    parents = {child: node for node in ast.walk(tree) for child in ast.iter_child_nodes(node)}
    for node in ast.walk(tree):
        if isinstance(node, ast.Attribute) and isinstance(parents[node], ast.Call) and parents[node].func is node:
            if node.attr not in METHODS + ["__init__"] and node.attr not in own:
                faults.append(("L25", node.lineno))
        if not isinstance(node, ast.Call):
            continue
        name = node.func.id if isinstance(node.func, ast.Name) else None
        attr = node.func.attr if isinstance(node.func, ast.Attribute) else None
        if name in ("set", "frozenset") and not set_is_asked(node, parents[node]):
            faults.append(("L24", node.lineno))
        if (name in LAZY or attr in LAZY_METHODS) and not is_walked(node, parents[node]):
            faults.append(("L23", node.lineno))
    return faults


def is_walked(node, parent):
    if isinstance(parent, (ast.For, ast.comprehension)):
        return parent.iter is node
    if not isinstance(parent, ast.Call):
        return False
    if isinstance(parent.func, ast.Attribute):
        return parent.func.attr == "join" and isinstance(parent.func.value, ast.Constant)
    return parent.func.id in WALKERS and (parent.args[0] is node or parent.func.id == "zip")


def set_is_asked(node, parent):
    if isinstance(parent, ast.Call):
        return isinstance(parent.func, ast.Name) and parent.func.id in ("sorted", "len")
    return isinstance(parent, (ast.Compare, ast.BinOp))


def faults_of_walks(tree):
    """L23: what a for walks is not changed in it."""
    faults = []
    for loop in ast.walk(tree):
        if not isinstance(loop, ast.For):
            continue
        walked = [ast.dump(part) for part in ast.walk(loop.iter) if isinstance(part, (ast.Name, ast.Attribute))]
        for part in (inner for row in loop.body for inner in ast.walk(row)):
            if isinstance(part, ast.Call) and isinstance(part.func, ast.Attribute) and part.func.attr in CHANGING:
                if ast.dump(part.func.value) in walked:
                    faults.append(("L23", part.lineno))
            if isinstance(part, ast.Subscript) and isinstance(part.ctx, ast.Store):
                if ast.dump(part.value).replace("Store", "Load") in walked:
                    faults.append(("L23", part.lineno))
    return faults


def faults_of_top(tree, package):
    faults = []
    bound = []
    for k, node in enumerate(tree.body):
        if isinstance(node, ast.Expr):
            if k != 0 or not isinstance(node.value, ast.Constant):
                faults.append(("L3", node.lineno))
        elif isinstance(node, ast.ImportFrom):
            if node.level or not node.module.startswith(package + ".") or any(one.name == "*" for one in node.names):
                faults.append(("L2", node.lineno))
            if any(not isinstance(ahead, (ast.Expr, ast.ImportFrom)) for ahead in tree.body[:k]):
                faults.append(("L2", node.lineno))
            bound.extend(one.asname or one.name for one in node.names)
        elif isinstance(node, (ast.FunctionDef, ast.ClassDef)):
            bound.append(node.name)
        elif isinstance(node, ast.Assign) and isinstance(node.targets[0], ast.Name):
            bound.append(node.targets[0].id)
            faults.extend(("L15", node.lineno) for part in ast.walk(node.value)
                          if isinstance(part, (ast.List, ast.Dict)) and part is not node.value)
            faults.extend(("L3", node.lineno) for part in ast.walk(node.value) if isinstance(part, ast.Call))
        else:
            faults.append(("L3", node.lineno))
    if len(bound) != len(set(bound)):
        faults.append(("L15", 1))
    for node in ast.walk(tree):
        if isinstance(node, (ast.ClassDef, ast.ImportFrom)) and node not in tree.body:
            faults.append(("L15", node.lineno))
    return faults


def faults_of_tops_changed(tree):
    """L15: a list or dict of the top is only read."""
    faults = []
    tops = [node.targets[0].id for node in tree.body if isinstance(node, ast.Assign)]
    for node in ast.walk(tree):
        if isinstance(node, ast.Attribute) and isinstance(node.value, ast.Name) and node.value.id in tops:
            if node.attr in CHANGING or isinstance(node.ctx, ast.Store):
                faults.append(("L15", node.lineno))
        if isinstance(node, ast.Subscript) and isinstance(node.ctx, ast.Store):
            if isinstance(node.value, ast.Name) and node.value.id in tops:
                faults.append(("L15", node.lineno))
        if isinstance(node, ast.Return) and isinstance(node.value, ast.Name) and node.value.id in tops:
            faults.append(("L15", node.lineno))
    return faults


def faults_of_file(text, package, own_methods):
    tree = ast.parse(text)
    faults = faults_of_text(text)
    docs = tree.body[0] if tree.body and isinstance(tree.body[0], ast.Expr) else None
    for node in ast.walk(tree):
        fault = None if node is docs else faults_of_node(node)
        if fault:
            faults.append((fault, getattr(node, "lineno", 0)))
    for part in (faults_of_names, faults_of_walks, faults_of_tops_changed):
        faults.extend(part(tree))
    faults.extend(faults_of_calls(tree, own_methods))
    faults.extend(faults_of_top(tree, package))
    return faults


def drawn_from(text):
    tree = ast.parse(text)
    return {one.name: node.module for node in tree.body if isinstance(node, ast.ImportFrom) for one in node.names}


def defined_in(text):
    tree = ast.parse(text)
    names = [node.name for node in tree.body if isinstance(node, (ast.FunctionDef, ast.ClassDef))]
    return names + [node.targets[0].id for node in tree.body if isinstance(node, ast.Assign)]


def methods_and_values(texts):
    methods, values = set(), set()
    for text in texts:
        for node in ast.walk(ast.parse(text)):
            if isinstance(node, ast.ClassDef):
                methods.update(part.name for part in node.body if isinstance(part, ast.FunctionDef))
            if isinstance(node, ast.Attribute) and isinstance(node.ctx, ast.Store):
                values.add(node.attr)
    return methods, values
