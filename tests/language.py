"""Looks a package's sources over for breaches of the part of Python that it keeps to.

It sees what can be seen row by row; what it passes may still break a rule that asks for more.
"""

import ast
import builtins
import re

PACKAGE = "firnfall"

OWN_NAMES = set(
    "len range enumerate zip min max sum abs sorted reversed int str bool bytes list tuple dict set frozenset"
    " isinstance ord repr any all divmod Exception ValueError TypeError KeyError IndexError LookupError"
    " ZeroDivisionError ArithmeticError OverflowError RuntimeError NotImplementedError AttributeError"
    " StopIteration".split()
)
OWN_METHODS = set(
    "append clear copy count endswith extend find get index insert isalnum isalpha isdigit islower isspace"
    " isupper items join keys ljust lower lstrip partition pop remove replace reverse rfind rjust rpartition"
    " rsplit rstrip setdefault split splitlines startswith strip update upper values zfill bit_length title"
    " capitalize swapcase casefold center expandtabs removeprefix removesuffix rindex isascii isdecimal"
    " isnumeric istitle isidentifier isprintable sort add discard encode decode hex fromhex to_bytes"
    " from_bytes translate maketrans".split()
)
UNDERSCORED = {"__init__", "__eq__", "__repr__", "__str__", "__len__"}
BARRED_NODES = (
    ast.With, ast.Match, ast.Global, ast.Nonlocal, ast.Yield, ast.YieldFrom, ast.AsyncFunctionDef, ast.AsyncFor,
    ast.AsyncWith, ast.Await, ast.GeneratorExp, ast.NamedExpr, ast.Div, ast.MatMult, ast.Import,
)
BARRED_NAMES = set(
    "register mro elements open input version_info with_traceback add_note attrgetter breakpoint builtins compile"
    " copyright credits delattr dir eval exec exit gc getattr globals hasattr help id importlib license locals"
    " methodcaller os quit setattr super type vars sys chr print format format_map".split()
)
BARRED_WORDS = re.compile(
    r"\b(type|typing|typing_extensions|enum|Enum|IntEnum|StrEnum|Flag|IntFlag|Generic|Protocol|ABC|ABCMeta"
    r"|namedtuple|NamedTuple|TypedDict|TYPE_CHECKING|abstractmethod)\b|dataclass|overload|contextmanager"
)
PLAIN_NAME = re.compile(r"[A-Za-z][A-Za-z0-9_]*\Z")
FILE_NAME = re.compile(r"([a-z][a-z0-9_]*|__init__|__main__)\.py\Z")


def breaches(sources):
    """Tell the breaches in a dict of file names and their texts, as texts `file:row: words`."""
    trees = {name: ast.parse(text) for name, text in sources.items()}
    methods = {
        node.name
        for tree in trees.values() for owner in ast.walk(tree) if isinstance(owner, ast.ClassDef)
        for node in owner.body if isinstance(node, ast.FunctionDef)
    }
    values = given_values(trees)
    found = []
    for name, text in sources.items():
        rows = in_text(name, text) + at_top(trees[name]) + in_imports(trees[name], trees)
        rows += in_locals(trees[name]) + in_values(trees[name], methods, values)
        for node in ast.walk(trees[name]):
            rows += in_node(node) + in_names(node) + in_calls(node, methods) + in_errors(node)
        found += [f"{name}:{row}: {words}" for row, words in rows]
    return sorted(found) + in_circles(trees)


def in_text(name, text):
    found = []
    if not FILE_NAME.match(name):
        found.append((0, "L14 the file's name"))
    rows = text.split("\n")
    if len(rows) > 401:
        found.append((401, "L10 a file of more than 400 rows"))
    for number, row in enumerate(rows, start=1):
        if len(row) > 120:
            found.append((number, "L10 a row of more than 120 signs"))
        if any(not " " <= sign <= "~" for sign in row):
            found.append((number, "L14 a sign that is not plain"))
        if BARRED_WORDS.search(row):
            found.append((number, "L17 a word that stands nowhere"))
    return found


def is_docstring(node):
    return isinstance(node, ast.Expr) and isinstance(node.value, ast.Constant) and isinstance(node.value.value, str)


def at_top(tree):
    found, bound = [], []
    for place, node in enumerate(tree.body):
        if isinstance(node, (ast.FunctionDef, ast.ClassDef)):
            bound.append((node.lineno, node.name))
        elif isinstance(node, ast.ImportFrom):
            bound += [(node.lineno, alias.asname or alias.name) for alias in node.names]
        elif isinstance(node, ast.Assign) and len(node.targets) == 1 and isinstance(node.targets[0], ast.Name):
            bound.append((node.lineno, node.targets[0].id))
        elif not (place == 0 and is_docstring(node)):
            found.append((node.lineno, "L3 what stands at a file's top"))
    names = [name for row, name in bound]
    found += [(row, f"L15 {name} is bound twice") for row, name in bound if names.count(name) > 1]
    return found


def in_imports(tree, trees):
    found = []
    for node in ast.walk(tree):
        if isinstance(node, ast.ImportFrom) and node.module != "__future__":
            drawn = trees.get((node.module or "").removeprefix(PACKAGE + ".") + ".py")
            if node not in tree.body or node.level or drawn is None:
                found.append((node.lineno, "L16 drawn from elsewhere than the package's files"))
                continue
            tops = [top for top in drawn.body if not isinstance(top, ast.ImportFrom)]
            defined = {name for top in tops for name in defined_by(top)}
            if any(alias.name not in defined for alias in node.names):
                found.append((node.lineno, "L16 drawn from a file that does not define it"))
    return found


def defined_by(node):
    if isinstance(node, ast.Assign):
        return [target.id for target in node.targets if isinstance(target, ast.Name)]
    return [node.name] if isinstance(node, (ast.FunctionDef, ast.ClassDef)) else []


def in_circles(trees):
    """Tell the files that draw from themselves, in however many steps."""
    drawn = {
        name: {f"{(node.module or '').removeprefix(PACKAGE + '.')}.py"
               for node in tree.body if isinstance(node, ast.ImportFrom)}
        for name, tree in trees.items()
    }
    for step in drawn:
        for name in drawn:
            drawn[name] = drawn[name].union(*[drawn.get(other, set()) for other in drawn[name]])
    return [f"{name}:0: L16 draws from itself" for name in sorted(drawn) if name in drawn[name]]


def in_node(node):
    if isinstance(node, BARRED_NODES):
        return [(getattr(node, "lineno", 0), f"L6 L7 {node.__class__.__name__} is out")]
    if isinstance(node, (ast.For, ast.While)) and node.orelse:
        return [(node.lineno, "L6 an else behind a loop")]
    if isinstance(node, ast.Constant):
        return in_constant(node)
    if isinstance(node, (ast.FunctionDef, ast.Lambda)):
        return in_function(node)
    if isinstance(node, ast.ClassDef):
        return in_class(node)
    if isinstance(node, ast.Compare):
        sides = [node.left] + node.comparators
        plain = [isinstance(side, ast.Constant) and side.value in (None, True, False) for side in sides]
        if any(isinstance(sign, (ast.Is, ast.IsNot)) for sign in node.ops) and not any(plain):
            return [(node.lineno, "L20 is beside another thing than None, True, False")]
    if isinstance(node, ast.BinOp) and isinstance(node.op, ast.Pow):
        if not (isinstance(node.right, ast.Constant) and node.right.value in range(65)):
            return [(node.lineno, "L27 a power by what is not written")]
    return []


def in_constant(node):
    if isinstance(node.value, str) and "%" in node.value:
        return [(node.lineno, "L27 a percent sign within a text")]
    if isinstance(node.value, (float, complex)) or node.value is Ellipsis:
        return [(node.lineno, "L7 a value of another kind")]
    return []


def in_function(node):
    found = []
    if node.args.vararg or node.args.kwarg or node.args.posonlyargs:
        found.append((node.lineno, "L4 parameters that are not plain"))
    if isinstance(node, ast.FunctionDef):
        if node.decorator_list:
            found.append((node.lineno, "L4 a decorator"))
        if node.end_lineno - node.lineno + 1 > 40:
            found.append((node.lineno, "L10 a function of more than 40 rows"))
    return found


def in_class(node):
    found = []
    if node.decorator_list or node.keywords or len(node.bases) > 1:
        found.append((node.lineno, "L5 a class that is not plain"))
    names = [part.name for part in node.body if isinstance(part, ast.FunctionDef)]
    if len(set(names)) < len(names):
        found.append((node.lineno, "L18 a method that stands twice"))
    for part in node.body:
        if not (isinstance(part, (ast.FunctionDef, ast.Pass)) or is_docstring(part)):
            found.append((part.lineno, "L5 a value in a class body"))
    return found


def in_names(node):
    found = []
    for name in given_by(node):
        if not PLAIN_NAME.match(name) and name not in UNDERSCORED and name not in ("__all__", "__version__"):
            found.append((node.lineno, f"L12 the name {name}"))
        if name in BARRED_NAMES:
            found.append((node.lineno, f"L17 the name {name}"))
        if name in dir(builtins) and not isinstance(node, ast.Attribute):
            found.append((node.lineno, f"L15 {name} is a name of Python's own"))
    if isinstance(node, ast.Name) and isinstance(node.ctx, ast.Load):
        if node.id in dir(builtins) and node.id not in OWN_NAMES:
            found.append((node.lineno, f"L8 the name {node.id}"))
    return found


def given_by(node):
    if isinstance(node, (ast.FunctionDef, ast.ClassDef)):
        return [node.name]
    if isinstance(node, ast.arg):
        return [node.arg]
    if isinstance(node, ast.Name) and isinstance(node.ctx, ast.Store):
        return [node.id]
    if isinstance(node, ast.Attribute) and node.attr not in UNDERSCORED:
        return [node.attr]
    if isinstance(node, ast.ExceptHandler) and node.name:
        return [node.name]
    return []


def in_calls(node, methods):
    if isinstance(node, ast.Call) and isinstance(node.func, ast.Attribute):
        if node.func.attr not in OWN_METHODS | methods:
            return [(node.lineno, f"L25 the method {node.func.attr}")]
    return []


def given_values(trees):
    """The names of the values that objects are given anywhere."""
    return {
        node.attr for tree in trees.values() for node in ast.walk(tree)
        if isinstance(node, ast.Attribute) and isinstance(node.ctx, ast.Store)
    }


def in_values(tree, methods, values):
    """Tell the values that are called like a method, and those that are asked for but never given."""
    called = {id(node.func) for node in ast.walk(tree) if isinstance(node, ast.Call)}
    found = []
    for node in ast.walk(tree):
        if not isinstance(node, ast.Attribute) or node.attr in UNDERSCORED:
            continue
        if isinstance(node.ctx, ast.Store) and node.attr in methods:
            found.append((node.lineno, f"L18 {node.attr} is a method and a value"))
        if isinstance(node.ctx, ast.Load) and id(node) not in called and node.attr not in values:
            found.append((node.lineno, f"L18 no class gives the value {node.attr}"))
    return found


def in_locals(tree):
    """Tell the parameters, locals and inner defs that are called like a class or an import of their file."""
    drawn = {alias.asname or alias.name for node in tree.body if isinstance(node, ast.ImportFrom)
             for alias in node.names}
    drawn |= {node.name for node in tree.body if isinstance(node, ast.ClassDef)}
    found = []
    for node in ast.walk(tree):
        if isinstance(node, ast.Attribute) or node in tree.body:
            continue
        found += [(node.lineno, f"L15 {name} is a class or an import of its file")
                  for name in given_by(node) if name in drawn and not is_method(node, tree)]
    return found


def is_method(node, tree):
    return any(node in owner.body for owner in tree.body if isinstance(owner, ast.ClassDef))


def in_errors(node):
    if isinstance(node, ast.ExceptHandler):
        taken = node.type.elts if isinstance(node.type, ast.Tuple) else [node.type]
        names = [part.id for part in taken if isinstance(part, ast.Name)]
        if not names or len(names) < len(taken) or "Exception" in names or "TypeError" in names:
            return [(node.lineno, "L19 what a handler takes")]
    if isinstance(node, ast.Raise) and node.exc is not None:
        if not (isinstance(node.exc, ast.Call) and isinstance(node.exc.func, ast.Name)):
            return [(node.lineno, "L19 an error that is not made on the spot")]
    return []
