"""A narrow reading of LANGUAGE.md: what the package may contain so far.

It allows less than the document does, so that it stays simple. A part of the language that the package
comes to need is to be added here, with the rule that allows it.
"""

import ast
import builtins
import re

from language_classes import SPECIAL, is_property, method_faults, operator_faults

PACKAGE = "sortclues"
LONGEST_FUNCTION, LONGEST_FILE, LONGEST_LINE = 40, 399, 120  # L10

NODES = (  # L4 to L7: what may stand in a function
    ast.arguments, ast.arg, ast.Expr, ast.Assign, ast.AugAssign, ast.If, ast.While, ast.For, ast.Return, ast.Break,
    ast.Continue, ast.Pass, ast.Raise, ast.Name, ast.Load, ast.Store, ast.Constant, ast.Attribute, ast.Subscript,
    ast.Slice, ast.Tuple, ast.List, ast.Dict, ast.ListComp, ast.DictComp, ast.SetComp, ast.comprehension, ast.Call,
    ast.keyword, ast.Compare, ast.Eq, ast.NotEq, ast.Lt, ast.LtE, ast.Gt, ast.GtE, ast.Is, ast.IsNot, ast.In, ast.NotIn,
    ast.BoolOp, ast.And, ast.Or, ast.UnaryOp, ast.Not, ast.USub, ast.BinOp, ast.Add, ast.Sub, ast.Mult, ast.FloorDiv,
    ast.Mod, ast.Pow, ast.BitAnd, ast.BitOr, ast.LShift, ast.IfExp, ast.JoinedStr, ast.FormattedValue, ast.Yield)
BUILTINS = (  # L8, without those whose use has rules of its own that are not checked here
    "len range enumerate zip min max sum abs sorted reversed int str bool list tuple dict set isinstance any all "
    "divmod ValueError TypeError super property").split()
ITERATING = "list tuple dict sorted sum min max any all enumerate zip".split()  # L23
METHODS = (  # L25, the first list, one of the additional ones, and those of stored sets (L24)
    "append clear copy count endswith extend find get index insert isalnum isalpha isdigit islower isspace isupper "
    "items join keys ljust lower lstrip partition pop remove replace reverse rfind rjust rpartition rsplit rstrip "
    "setdefault split splitlines startswith strip update upper values zfill bit_length isascii add discard").split()
BARRED = (  # L17
    "register mro elements open input law version_info with_traceback add_note attrgetter breakpoint builtins compile "
    "copyright credits delattr dir eval exec exit gc getattr globals hasattr help id importlib license locals "
    "methodcaller os quit setattr type vars sys").split()
BARRED_WORDS = (  # L17, L12
    r"\b(type|typing|typing_extensions|enum|Enum|IntEnum|StrEnum|Flag|IntFlag|Generic|Protocol|ABC|ABCMeta|namedtuple|"
    r"NamedTuple|TypedDict|TYPE_CHECKING|abstractmethod)\b|dataclass|overload|contextmanager|_wall|_WallAttr")


def faults(sources):
    """What is wrong with a package, given as a dict of file names and texts."""
    found = []
    trees = {}
    for name, text in sources.items():
        found += [f"{name}: {fault}" for fault in text_faults(name, text)]
        trees[name] = ast.parse(text)
        found += [f"{name}: {fault}" for fault in file_faults(trees[name])]
    found += [*import_faults(trees), *iteration_faults(trees), *own_call_faults(trees)]
    return found + list(operator_faults(trees))


def text_faults(name, text):
    """L1, L10, L14, L17, L27: what can be seen without reading the code."""
    lines = text.split("\n")
    if not re.fullmatch(r"[a-z][a-z0-9_]*\.py|__init__\.py", name):
        yield "L1, L14: the name of the file"
    if re.search(r"[^ -~\n]", text) or not text.endswith("\n"):
        yield "L14: a character"
    if len(lines) - 1 > LONGEST_FILE or max(len(line) for line in lines) > LONGEST_LINE:
        yield "L10: the size of the file or of a line"
    if re.search(BARRED_WORDS, text):
        yield "L12, L17: a word"
    if re.search(r"""\\[^nt"']""", text.replace("\\\\", "")):
        yield "L27: an escape"


def file_faults(tree):
    """L3: the module level; then all that stands in functions and classes."""
    names = []
    for place, part in enumerate(tree.body):
        if isinstance(part, ast.FunctionDef):
            yield from function_faults(part)
        elif isinstance(part, ast.ClassDef):
            yield from class_faults(part)
        elif isinstance(part, ast.Assign):
            yield from ["L3: a value"] * (len(part.targets) != 1 or not is_plain_value(part.value))
        elif isinstance(part, ast.Import):
            yield f"L2: line {part.lineno}"
        elif not isinstance(part, ast.ImportFrom) and not (place == 0 and is_docstring(part)):
            yield f"L3: line {part.lineno}"
        names += bound_names(part)
    yield from [f"L15: {name} is bound twice" for name in set(names) if names.count(name) > 1]
    yield from [f"L12, L15, L17: the name {name}" for name in names if is_barred(name)]
    yield from own_name_faults(tree, names)


def bound_names(part):
    """The names that a statement at module level binds."""
    if isinstance(part, ast.ImportFrom):
        return [alias.asname or alias.name for alias in part.names]
    if isinstance(part, ast.Assign):
        return [target.id for target in part.targets if isinstance(target, ast.Name)]
    return [part.name] if isinstance(part, (ast.FunctionDef, ast.ClassDef)) else []


def is_docstring(part):
    """Whether a statement is a string alone."""
    return isinstance(part, ast.Expr) and isinstance(part.value, ast.Constant) and isinstance(part.value.value, str)


def is_plain_value(value):
    """Whether a value is an integer, a string, True, False, None, or a tuple of such."""
    if isinstance(value, ast.UnaryOp) and isinstance(value.op, ast.USub):
        return isinstance(value.operand, ast.Constant) and isinstance(value.operand.value, int)
    if isinstance(value, ast.Tuple):
        return all(is_plain_value(part) for part in value.elts)
    return isinstance(value, ast.Constant) and isinstance(value.value, (int, str, type(None)))


def is_barred(name):
    """L12, L15, L17: names that nothing may have."""
    if name in SPECIAL or name == "_":
        return False
    return not re.fullmatch(r"_?[A-Za-z][A-Za-z0-9_]*", name) or name in BARRED or name in vars(builtins)


def own_name_faults(tree, names):
    """L15: no parameter or local variable has the name of a class or an import; L8: the builtins."""
    heads = [part for part in tree.body if isinstance(part, (ast.ClassDef, ast.ImportFrom))]
    taken = [name for part in heads for name in bound_names(part)]
    local = [node.arg for node in ast.walk(tree) if isinstance(node, ast.arg)]
    local += [node.id for part in tree.body if isinstance(part, (ast.FunctionDef, ast.ClassDef))
              for node in ast.walk(part) if isinstance(node, ast.Name) and isinstance(node.ctx, ast.Store)]
    yield from [f"L15: {name} is taken" for name in local if name in taken]
    yield from [f"L12, L15, L17: the name {name}" for name in local if is_barred(name)]
    for node in ast.walk(tree):
        if isinstance(node, ast.Name) and node.id not in names + local + BUILTINS:
            yield f"L8: {node.id} in line {node.lineno}"
        if isinstance(node, ast.Attribute) and is_barred(node.attr):
            yield f"L17: .{node.attr} in line {node.lineno}"


def class_faults(part):
    """L5, L18: classes."""
    if part.decorator_list or part.keywords or len(part.bases) > 1:
        yield f"L5: the head of {part.name}"
    for place, inner in enumerate(part.body):
        if isinstance(inner, ast.FunctionDef):
            yield from function_faults(inner, is_method=True)
            yield from method_faults(part, inner)
            yield from [f"L12, L17: {inner.name}"] * is_barred(inner.name)
        elif not (place == 0 and is_docstring(inner)):
            yield f"L5: line {inner.lineno}"


def function_faults(function, is_method=False):
    """L4 to L25: one function or method."""
    if function.end_lineno - function.lineno >= LONGEST_FUNCTION:
        yield f"L10: {function.name} is long"
    arguments = function.args
    if arguments.kwarg or arguments.posonlyargs or arguments.vararg and not is_method:
        yield f"L4: the head of {function.name}"
    if function.decorator_list and not (is_method and is_property(function)):
        yield f"L4, L5: the decorator of {function.name}"
    if function.returns or any(node.annotation for node in ast.walk(arguments) if isinstance(node, ast.arg)):
        yield f"L21: {function.name}"
    defaults = arguments.defaults + [default for default in arguments.kw_defaults if default]
    if not all(is_plain_value(default) for default in defaults):
        yield f"L4: a default value of {function.name}"
    for part in [arguments] + function.body:
        for node in ast.walk(part):
            if not isinstance(node, NODES):
                yield f"L4, L6, L7, L21: {type(node).__name__} in {function.name}"
    yield from [fault for node in ast.walk(function) for fault in node_faults(node)]
    yield from set_faults(function)
    if is_generator(function):
        yield from generator_faults(function)


def node_faults(node):
    """L7, L19, L20, L22, L23, L25, L27: one piece of code."""
    if isinstance(node, ast.Constant) and not isinstance(node.value, (int, str, type(None))):
        yield f"L7: a value in line {node.lineno}"
    if isinstance(node, ast.Constant) and isinstance(node.value, str) and chr(37) in node.value:
        yield f"L27: a character in line {node.lineno}"
    if isinstance(node, ast.Compare) and any(isinstance(sign, (ast.Is, ast.IsNot)) for sign in node.ops):
        if not all(isinstance(side, ast.Constant) and side.value in (None, True, False) for side in node.comparators):
            yield f"L20: line {node.lineno}"
    if isinstance(node, ast.Raise) and node.exc is not None:
        if not (isinstance(node.exc, ast.Call) and isinstance(node.exc.func, ast.Name) and not node.exc.keywords):
            yield f"L19: line {node.lineno}"
    if isinstance(node, ast.BinOp) and isinstance(node.op, ast.Pow):
        if not (isinstance(node.right, ast.Constant) and node.right.value in range(65)):
            yield f"L27: an exponent in line {node.lineno}"
    if isinstance(node, ast.Call) and any(isinstance(part, ast.Starred) for part in node.args):
        yield f"L7: a star in line {node.lineno}"
    if isinstance(node, (ast.Assign, ast.Return)) and is_call_of(node.value, "zip range enumerate reversed".split()):
        yield f"L23: line {node.lineno}"


def own_call_faults(trees):
    """L22, L25: what is called with a dot is a method of builtin values or an own one."""
    nodes = [(name, node) for name, tree in trees.items() for node in ast.walk(tree)]
    own = [inner.name for _, node in nodes if isinstance(node, ast.ClassDef) for inner in node.body
           if isinstance(inner, ast.FunctionDef)]
    for name, node in nodes:
        if isinstance(node, ast.Call) and isinstance(node.func, ast.Attribute):
            attr = node.func.attr
            if attr not in METHODS + own or node.keywords and attr in METHODS:
                yield f"{name}: L22, L25: line {node.lineno}"


def is_call_of(node, names):
    """Whether a piece of code is a call of one of these builtins."""
    return isinstance(node, ast.Call) and isinstance(node.func, ast.Name) and node.func.id in names


def is_generator(function):
    """Whether a function yields."""
    return any(isinstance(node, ast.Yield) for node in ast.walk(function))


def generator_faults(function):
    """L23: a yield is a statement of its own, and nothing is returned beside it."""
    alone = [id(node.value) for node in ast.walk(function) if isinstance(node, ast.Expr)]
    for node in ast.walk(function):
        is_inside = isinstance(node, ast.Yield) and id(node) not in alone
        if is_inside or isinstance(node, ast.Return) and node.value is not None:
            yield f"L23: line {node.lineno}"


def iteration_faults(trees):
    """L23: the call of a generator is iterated at once, and the generator stands nowhere else."""
    functions = [(name, node) for name, tree in trees.items() for node in ast.walk(tree)
                 if isinstance(node, ast.FunctionDef)]
    generators = [function.name for _, function in functions if is_generator(function)]
    for file, function in functions:
        nodes = list(ast.walk(function))
        fine = [id(node.iter) for node in nodes if isinstance(node, (ast.For, ast.comprehension))]
        fine += [id(node.args[0]) for node in nodes if is_call_of(node, ITERATING) and node.args]
        called = [id(node.func) for node in nodes if isinstance(node, ast.Call) and id(node) in fine]
        named = [node for node in nodes if isinstance(node, ast.Name) and node.id in generators]
        yield from [f"{file}: L23: line {node.lineno}" for node in named if id(node) not in called]
        yield from [f"{file}: L23, L25: {function.name}"] * (function.name in generators and function.name in METHODS)


def set_faults(function):
    """L24: sets stand in len(..) or sorted(..), or in a local variable that is asked with in alone."""
    nodes = list(ast.walk(function))
    is_set = {id(node): node for node in nodes if isinstance(node, ast.SetComp) or is_call_of(node, ["set"])}
    held = [node for node in nodes if isinstance(node, ast.Assign) and id(node.value) in is_set]
    names = [target.id for node in held for target in node.targets if isinstance(target, ast.Name)]
    fine = [id(node.value) for node in held]
    fine += [id(node.args[0]) for node in nodes if is_call_of(node, ["len", "sorted"]) and node.args]
    yield from [f"L24: line {node.lineno}" for mark, node in is_set.items() if mark not in fine]
    for node in nodes:
        if isinstance(node, ast.Attribute) and node.attr in ("add", "discard"):
            if not (isinstance(node.value, ast.Name) and node.value.id in names):
                yield f"L24, L25: line {node.lineno}"
    asked = [id(side) for node in nodes if isinstance(node, ast.Compare)
             if all(isinstance(sign, (ast.In, ast.NotIn)) for sign in node.ops) for side in node.comparators]
    added = [id(node.value) for node in nodes if isinstance(node, ast.Attribute) and node.attr in ("add", "discard")]
    for node in nodes:
        if isinstance(node, ast.Name) and node.id in names and isinstance(node.ctx, ast.Load):
            yield from [f"L24: line {node.lineno}"] * (id(node) not in asked + added)
    yield from [f"L24: {name} is assigned twice" for name in set(names)
                if len([node for node in nodes if isinstance(node, ast.Name) and node.id == name
                        and isinstance(node.ctx, ast.Store)]) > 1]


def import_faults(trees):
    """L2, L16: imports take names from the files that define them, and never in a circle."""
    reads = {}
    for name, tree in trees.items():
        imports = [part for part in tree.body if isinstance(part, ast.ImportFrom)]
        reads[name] = [file_of(part) for part in imports]
        yield from [f"{name}: L2, L16: line {part.lineno}" for part in imports if not is_right_import(trees, part)]
        yield from [f"{name}: L16: an import"] * (name == "__init__.py" and imports != [])
    yield from [f"{name}: L16: a circle" for name in reads if name in reached(reads, name)]


def file_of(part):
    """The file that an import reads."""
    return f"{str(part.module).removeprefix(PACKAGE + '.')}.py"


def is_right_import(trees, part):
    """Whether an import takes names from the very file of the package that defines them."""
    if part.level or not str(part.module).startswith(PACKAGE + ".") or file_of(part) not in trees:
        return False
    inner = [inner for inner in trees[file_of(part)].body if not isinstance(inner, ast.ImportFrom)]
    defined = [name for thing in inner for name in bound_names(thing)]
    return all(alias.name in defined and alias.asname is None for alias in part.names)


def reached(reads, name):
    """All files that a file reads, straight or through others."""
    found, left = set(), list(reads[name])
    while left:
        file = left.pop()
        if file not in found:
            found.add(file)
            left += reads.get(file, [])
    return found
