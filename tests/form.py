"""Looks through the package's files for what the rules of ../shared/LANGUAGE.md rule out.

It sees what can be seen row by row and name by name (L1 to L8, L10, L12 to L28 in part); the rest is for readers.
"""

import ast
import builtins
import re

PACKAGE = "catchhall"

CALLED = set(
    "len range enumerate zip min max sum abs sorted reversed int str bool list tuple dict set frozenset isinstance "
    "ord repr any all divmod".split()
)
ERRORS = set(
    "Exception ValueError TypeError KeyError IndexError LookupError ZeroDivisionError ArithmeticError OverflowError "
    "RuntimeError NotImplementedError AttributeError StopIteration".split()
)
METHODS = set(
    "append clear copy count endswith extend find get index insert isalnum isalpha isdigit islower isspace isupper "
    "items join keys ljust lower lstrip partition pop remove replace reverse rfind rjust rpartition rsplit rstrip "
    "setdefault split splitlines startswith strip update upper values zfill bit_length".split()
)
CHANGING = set("append clear extend insert pop remove reverse setdefault update".split())
WALKED = set("zip enumerate reversed range".split())
WALKERS = set("list tuple dict sorted sum any all enumerate zip min max".split())
KEYWORDS = {
    "sorted": {"key", "reverse"}, "min": {"key", "default"}, "max": {"key", "default"},
    "sum": {"start"}, "enumerate": {"start"}, "zip": {"strict"},
}
OUT_EVERYWHERE = set(
    "register mro elements open input version_info with_traceback add_note f_back tb_next co_names format "
    "format_map".split()
)
OUT_AS_NAMES = set(
    "attrgetter breakpoint builtins compile copyright credits delattr dir eval exec exit gc getattr globals hasattr "
    "help id importlib license locals methodcaller os quit setattr super type vars sys __name__ chr".split()
)
WORDS = re.compile(
    r"\b(type|typing|typing_extensions|enum|Enum|IntEnum|StrEnum|Flag|IntFlag|Generic|Protocol|ABC|ABCMeta|namedtuple"
    r"|NamedTuple|TypedDict|TYPE_CHECKING|abstractmethod)\b|dataclass|overload|contextmanager"
)
FILE_NAME = re.compile(r"[a-z][a-z0-9_]*\.py|__init__\.py|__main__\.py")
FILES_OUT = re.compile(r"(test|tests|testing|test_.*|site|conftest|sitecustomize|usercustomize)\.py")
UNDERSCORED = set("__init__ __eq__ __repr__ __str__ __len__".split())

STATEMENTS = (
    ast.Assign, ast.AugAssign, ast.If, ast.While, ast.For, ast.Return, ast.Break, ast.Continue, ast.Pass, ast.Raise,
    ast.Try, ast.Expr, ast.FunctionDef, ast.ClassDef, ast.ImportFrom,
)
EXPRESSIONS = (
    ast.Constant, ast.List, ast.Tuple, ast.Dict, ast.Set, ast.BinOp, ast.UnaryOp, ast.BoolOp, ast.Compare, ast.IfExp,
    ast.Call, ast.Attribute, ast.Subscript, ast.Slice, ast.ListComp, ast.JoinedStr, ast.FormattedValue, ast.Name,
    ast.Lambda,
)


def faults_of_file(name, text):
    """The faults of one file, each a text that begins with the rule's number and the row."""
    tree = ast.parse(text)
    found = faults_of_rows(name, text) + faults_of_top(tree)
    for parent in ast.walk(tree):
        for node in ast.iter_child_nodes(parent):
            # Marks of kinds (Load, Add ..) are one object in the whole tree, and nobody asks for their parents.
            node.parent = parent
    for node in ast.walk(tree):
        for rule, broken in looks_at(node):
            if broken:
                found.append(f"{rule} row {getattr(node, 'lineno', 0)}: {ast.dump(node)[:80]}")
    return found + faults_of_names(tree)


def faults_of_rows(name, text):
    found = []
    if not FILE_NAME.fullmatch(name) or FILES_OUT.fullmatch(name) or name[:-3] in dir(builtins):
        found.append(f"L14 the file's name {name}")
    rows = text.split("\n")
    if len(rows) > 401:
        found.append("L10 more than 400 rows")
    for number, row in enumerate(rows, start=1):
        if len(row) > 120:
            found.append(f"L10 row {number} is too long")
        if any(not " " <= sign <= "~" for sign in row):
            found.append(f"L14 row {number} has a sign that is out")
        if WORDS.search(row):
            found.append(f"L17 row {number} has a word that is out")
    return found


def faults_of_top(tree):
    found = []
    bound = []
    defs = []
    for spot, node in enumerate(tree.body):
        if isinstance(node, (ast.FunctionDef, ast.ClassDef)):
            bound.append(node.name)
            if isinstance(node, ast.FunctionDef):
                defs.append(node.name)
        elif isinstance(node, ast.ImportFrom):
            bound.extend(each.name for each in node.names)
        elif isinstance(node, ast.Assign) and isinstance(node.targets[0], ast.Name):
            bound.append(node.targets[0].id)
            if isinstance(node.value, ast.Name) or not is_plain(node.value, defs):
                found.append(f"L3 row {node.lineno}: no plain value")
        elif not (spot == 0 and is_text(node)):
            found.append(f"L3 row {node.lineno}: nothing is done at a file's top")
    for each in sorted(set(bound)):
        if bound.count(each) > 1:
            found.append(f"L15 {each} is bound twice")
    return found


def is_text(node):
    return isinstance(node, ast.Expr) and isinstance(node.value, ast.Constant) and isinstance(node.value.value, str)


def is_plain(node, defs):
    if isinstance(node, (ast.List, ast.Tuple)):
        return all(is_plain(each, defs) for each in node.elts)
    if isinstance(node, ast.Dict):
        return all(is_plain(each, defs) for each in node.keys + node.values)
    if isinstance(node, ast.UnaryOp):
        return isinstance(node.operand, ast.Constant)
    return isinstance(node, ast.Constant) or isinstance(node, ast.Name) and node.id in defs


def looks_at(node):
    """Pairs of a rule and whether the node breaks it."""
    if isinstance(node, ast.stmt):
        yield "L6", not isinstance(node, STATEMENTS)
    if isinstance(node, ast.expr):
        yield "L7", not isinstance(node, EXPRESSIONS)
    look = LOOKS.get(node.__class__)
    if look is not None:
        yield from look(node)


def look_at_import(node):
    yield "L2", node.level != 0 or not (node.module or "").startswith(PACKAGE + ".")
    yield "L2", any(each.name == "*" for each in node.names)
    yield "L16", any(each.asname is not None for each in node.names)
    yield "L2", not isinstance(node.parent, ast.Module)


def look_at_plain_import(node):
    yield "L16", True


def look_at_def(node):
    some = node.args
    yield "L4", some.vararg is not None or some.kwarg is not None or some.kwonlyargs != [] or some.posonlyargs != []
    yield "L4", node.decorator_list != []
    yield "L10", node.end_lineno - node.lineno + 1 > 40
    yield "L21", node.returns is not None or any(each.annotation is not None for each in some.args)
    yield "L5", isinstance(node.parent, ast.ClassDef) and node.name.startswith("__") and node.name not in UNDERSCORED


def look_at_class(node):
    yield "L5", node.decorator_list != [] or node.keywords != [] or len(node.bases) > 1
    yield "L5", any(not isinstance(each, (ast.FunctionDef, ast.Pass)) and not is_text(each) for each in node.body)
    yield "L15", not isinstance(node.parent, ast.Module)
    bases = [base.id for base in node.bases if isinstance(base, ast.Name)]
    yield "L18", "StopIteration" in bases or "AttributeError" in bases


def look_at_assign(node):
    yield "L6", len(node.targets) != 1


def look_at_loop(node):
    yield "L6", node.orelse != []
    if isinstance(node, ast.For):
        walked = [ast.dump(each) for each in [node.iter] + getattr(node.iter, "args", [])]
        for each in ast.walk(node):
            if isinstance(each, ast.Call) and isinstance(each.func, ast.Attribute) and each.func.attr in CHANGING:
                yield "L23", ast.dump(each.func.value) in walked
            if isinstance(each, ast.Subscript) and isinstance(each.ctx, ast.Store):
                yield "L23", ast.dump(each.value) in walked


def look_at_expr_row(node):
    yield "L6", not isinstance(node.value, ast.Call) and not is_text(node)


def look_at_try(node):
    yield "L6", node.finalbody != []


def look_at_handler(node):
    taken = [each.id for each in ast.walk(node.type) if isinstance(each, ast.Name)] if node.type else ["Exception"]
    yield "L19", "Exception" in taken or "TypeError" in taken


def look_at_constant(node):
    yield "L7", not (node.value is None or isinstance(node.value, (bool, int, str)))
    yield "L27", isinstance(node.value, str) and "%" in node.value


def look_at_operation(node):
    yield "L7", isinstance(node.op, (ast.Div, ast.MatMult))
    if isinstance(node.op, ast.Pow):
        power = node.right if isinstance(node, ast.BinOp) else node.value
        yield "L27", not (isinstance(power, ast.Constant) and 0 <= power.value <= 64)


def look_at_comparison(node):
    some = [node.left] + node.comparators
    for op, left, right in zip(node.ops, some, some[1:]):
        beside = [each.value for each in (left, right) if isinstance(each, ast.Constant)]
        yield "L20", isinstance(op, (ast.Is, ast.IsNot)) and not any(each in (None, True, False) for each in beside)


def look_at_comprehension(node):
    yield "L7", len(node.generators) != 1 or len(node.generators[0].ifs) > 1


def look_at_filled_text(node):
    yield "L7", not isinstance(node.value, ast.Name) or node.format_spec is not None or node.conversion not in (-1, 114)


def look_at_name(node):
    known = node.id in CALLED or node.id in ERRORS
    yield "L8", node.id in dir(builtins) and not known
    yield "L15", isinstance(node.ctx, ast.Store) and node.id in dir(builtins)
    yield "L12", node.id.startswith("_")
    yield "L17", node.id in OUT_EVERYWHERE or node.id in OUT_AS_NAMES
    if node.id in CALLED and isinstance(node.ctx, ast.Load):
        call = node.parent
        yield "L22", not (isinstance(call, (ast.Call, ast.keyword)) or is_kind_named(node))


def is_kind_named(node):
    while isinstance(node, (ast.Name, ast.Tuple)):
        node = node.parent
    return isinstance(node, ast.Call) and isinstance(node.func, ast.Name) and node.func.id == "isinstance"


def look_at_argument(node):
    yield "L12", node.arg.startswith("_")
    yield "L15", node.arg in dir(builtins)


def look_at_attribute(node):
    yield "L17", node.attr in OUT_EVERYWHERE
    yield "L12", node.attr.startswith("_") and node.attr != "__init__"
    built_in = any(hasattr(kind, node.attr) for kind in (str, int, list, dict, set, bytes, tuple))
    yield "L25", built_in and node.attr not in METHODS and node.attr != "__init__"


def look_at_call(node):
    if not isinstance(node.func, ast.Name):
        return
    name = node.func.id
    given = {each.arg for each in node.keywords}
    if name in CALLED:
        yield "L22", not given <= KEYWORDS.get(name, set())
    if name in WALKED:
        yield "L23", not is_walked(node)
    if name in ("set", "frozenset"):
        yield "L24", not isinstance(node.parent, (ast.Compare, ast.BinOp)) and not is_in_call(node, ("sorted", "len"))


def is_in_call(node, names):
    call = node.parent
    return isinstance(call, ast.Call) and isinstance(call.func, ast.Name) and call.func.id in names


def is_walked(node):
    around = node.parent
    if isinstance(around, (ast.For, ast.comprehension)):
        return around.iter is node
    in_join = isinstance(around, ast.Call) and isinstance(around.func, ast.Attribute) and around.func.attr == "join"
    return is_in_call(node, WALKERS) or in_join


LOOKS = {
    ast.Import: look_at_plain_import, ast.ImportFrom: look_at_import,
    ast.FunctionDef: look_at_def, ast.ClassDef: look_at_class, ast.Assign: look_at_assign,
    ast.For: look_at_loop, ast.While: look_at_loop, ast.Expr: look_at_expr_row,
    ast.Try: look_at_try, ast.ExceptHandler: look_at_handler, ast.Constant: look_at_constant,
    ast.BinOp: look_at_operation, ast.AugAssign: look_at_operation, ast.Compare: look_at_comparison,
    ast.ListComp: look_at_comprehension, ast.FormattedValue: look_at_filled_text, ast.Name: look_at_name,
    ast.arg: look_at_argument, ast.Attribute: look_at_attribute, ast.Call: look_at_call,
}


def faults_of_names(tree):
    """L15: no local is called like a class or an import of its file."""
    taken = set()
    for node in tree.body:
        if isinstance(node, ast.ClassDef):
            taken.add(node.name)
        if isinstance(node, ast.ImportFrom):
            taken.update(each.name for each in node.names)
    found = []
    for node in ast.walk(tree):
        local = isinstance(node, ast.Name) and isinstance(node.ctx, ast.Store) and node.id in taken
        if local or isinstance(node, ast.arg) and node.arg in taken:
            found.append(f"L15 row {node.lineno}: called like a class or an import")
    return found


def faults_of_classes(files):
    """L18 over all files: no name is a method in one class and a value in another."""
    methods = set()
    values = set()
    for text in files.values():
        for each in [node for node in ast.parse(text).body if isinstance(node, ast.ClassDef)]:
            methods |= {node.name for node in each.body if isinstance(node, ast.FunctionDef)}
            stored = [node for node in ast.walk(each) if isinstance(node, ast.Attribute)]
            values |= {node.attr for node in stored if isinstance(node.ctx, ast.Store)}
    return [f"L18 {name} is a method and a value" for name in sorted(methods & values)]


def faults_of_imports(files):
    """L16 over all files (a dict of names and texts): names from the files that define them, and no ring of imports."""
    found = []
    drawn = {}
    defined = {}
    for name, text in files.items():
        tree = ast.parse(text)
        rows = [node for node in tree.body if isinstance(node, ast.ImportFrom)]
        drawn[name] = [(node.module.partition(".")[2] + ".py", each.name) for node in rows for each in node.names]
        defined[name] = {node.name for node in tree.body if isinstance(node, (ast.FunctionDef, ast.ClassDef))}
        defined[name] |= {node.targets[0].id for node in tree.body if isinstance(node, ast.Assign)}
    for name in files:
        for source, thing in drawn[name]:
            if thing not in defined.get(source, set()):
                found.append(f"L16 {name}: {source} does not define {thing}")
        reached = []
        waiting = [source for source, thing in drawn[name]]
        while waiting:
            source = waiting.pop()
            if source not in reached:
                reached.append(source)
                waiting.extend(further for further, thing in drawn.get(source, []))
        if name in reached:
            found.append(f"L16 {name} draws from itself")
    return found
