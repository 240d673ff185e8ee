"""What language.py asks of classes: L5 and L28, and what operators and properties may change."""

import ast

ANY = None
SPECIAL = {  # L5, each with its parameters
    "__init__": ANY, "__call__": ANY, "__iter__": ["self"], "__len__": ["self"], "__neg__": ["self"],
    "__eq__": ["self", "other"], "__le__": ["self", "other"], "__and__": ["self", "other"],
    "__iand__": ["self", "other"], "__contains__": ["self", "x"], "__getitem__": ["self", "at"],
    "__setitem__": ["self", "at", "worth"]}
FREE = ("__init__", "__call__", "__iter__", "__iand__", "__setitem__")  # these may change their object
ORDERS = ("__lt__", "__le__", "__gt__", "__ge__")
MODIFYING = ("append clear extend insert pop remove reverse setdefault sort update add discard").split()


def is_property(method):
    """Whether a method is a property that can be read, in the one form that L5 allows."""
    names = [mark.id for mark in method.decorator_list if isinstance(mark, ast.Name)]
    return names == ["property"] and len(method.decorator_list) == 1 and parameters(method) == ["self"]


def parameters(function):
    """All names of the parameters of a function."""
    return [node.arg for node in ast.walk(function.args) if isinstance(node, ast.arg)]


def rows_of(function):
    """The statements of a function behind its docstring."""
    rows = function.body
    return rows[1:] if len(rows) > 1 and isinstance(rows[0], ast.Expr) else rows


def method_faults(part, method):
    """L5, L28: one method of a class."""
    name = method.name
    if name.startswith("__"):
        if name not in SPECIAL or SPECIAL[name] not in (ANY, parameters(method)) or method.args.vararg:
            yield f"L5: {name} of {part.name}"
    if parameters(method)[:1] != ["self"] or method.args.args[:1] == []:
        yield f"L4: the first parameter of {name}"
    if name == "__getitem__" and "__iter__" not in [inner.name for inner in methods_of(part)]:
        yield f"L5: {part.name} has no __iter__"
    if name == "__iter__" and not (isinstance(method.body[0], ast.Raise) and len(method.body) == 1):
        yield f"L5: __iter__ of {part.name}"
    if name in ("__eq__", "__len__") and not (len(rows_of(method)) == 1 and isinstance(method.body[-1], ast.Return)):
        yield f"L28: {name} of {part.name}"
    if name == "__len__" and not ast.unparse(method.body[-1]).startswith("return len("):
        yield f"L28: __len__ of {part.name}"
    stored = [node.attr for inner in methods_of(part) for node in ast.walk(inner)
              if isinstance(node, ast.Attribute) and isinstance(node.ctx, ast.Store)]
    yield from [f"L18: {name} is a method and an attribute"] * (name in stored)


def methods_of(part):
    """The methods of a class."""
    return [inner for inner in part.body if isinstance(inner, ast.FunctionDef)]


def operator_faults(trees):
    """L5: what operators and properties call changes nothing; what is sorted beside an order is plain numbers."""
    classes = [part for tree in trees.values() for part in tree.body if isinstance(part, ast.ClassDef)]
    methods = [method for part in classes for method in methods_of(part)]
    named = [(method.name, method) for method in methods]
    named += [(part.name, part) for tree in trees.values() for part in tree.body if isinstance(part, ast.FunctionDef)]
    named += [(part.name, method) for part in classes for method in methods_of(part) if method.name == "__init__"]
    for function in reached_by([method for method in methods if is_operator(method)], named):
        yield from [f"L5: {function.name} is run by an operator: {fault}" for fault in change_faults(function)]
    if any(method.name in ORDERS for method in methods):
        for name, tree in trees.items():
            yield from [f"{name}: L5: line {line}" for line in unplain_lines(tree)]


def is_operator(method):
    """Whether a method is an operator that may change nothing, or a property."""
    return method.decorator_list != [] or method.name in SPECIAL and method.name not in FREE


def reached_by(methods, named):
    """The methods, and all own functions and methods that they may run, by their names."""
    found, left = [], list(methods)
    while left:
        function = left.pop()
        if function not in found:
            found.append(function)
            called = [node.func for node in ast.walk(function) if isinstance(node, ast.Call)]
            names = [getattr(func, "id", getattr(func, "attr", "")) for func in called]
            left += [inner for name, inner in named if name in names]
    return found


def change_faults(function):
    """What a function changes that it did not create itself, and what it calls that it is passed."""
    fresh = created(function)
    for node in ast.walk(function):
        stored = isinstance(getattr(node, "ctx", None), ast.Store)
        if isinstance(node, ast.Attribute) and stored and function.name != "__init__":
            yield f"an attribute in line {node.lineno}"
        if isinstance(node, ast.Subscript) and stored and base_name(node.value) not in fresh:
            yield f"an item in line {node.lineno}"
        if isinstance(node, ast.AugAssign):
            if not (isinstance(node.target, ast.Name) and isinstance(node.value, ast.Constant)):
                yield f"a sum in line {node.lineno}"
        if isinstance(node, ast.Call) and isinstance(node.func, ast.Attribute) and node.func.attr in MODIFYING:
            if base_name(node.func.value) not in fresh:
                yield f"a call in line {node.lineno}"
        if isinstance(node, ast.Call) and isinstance(node.func, ast.Name) and node.func.id in parameters(function):
            yield f"a call of a parameter in line {node.lineno}"


def base_name(node):
    """The name that an item or a call of setdefault belongs to."""
    if isinstance(node, ast.Call) and isinstance(node.func, ast.Attribute) and node.func.attr == "setdefault":
        node = node.func.value
    return node.id if isinstance(node, ast.Name) else ""


def created(function):
    """The names of the local variables that are only ever assigned lists, dicts and sets of their own."""
    values = {}
    whole = {}
    for node in ast.walk(function):
        if isinstance(node, ast.Assign):
            whole.update({id(target): node.value for target in node.targets})
        if isinstance(node, ast.Name) and isinstance(node.ctx, ast.Store):
            # A name that stands in a tuple or behind a for is given a part of something, which may not be new.
            values.setdefault(node.id, []).append(whole.get(id(node)))
    return [name for name, given in values.items()
            if name not in parameters(function) and all(is_new(value) for value in given)]


def is_new(value):
    """Whether a value is a new list, dict or set."""
    if isinstance(value, ast.BinOp) and isinstance(value.op, ast.Mult):
        return isinstance(value.left, ast.List)
    if isinstance(value, ast.Call) and isinstance(value.func, ast.Name):
        return value.func.id in ("list", "dict", "set", "sorted")
    return isinstance(value, (ast.List, ast.Dict, ast.ListComp, ast.DictComp))


def unplain_lines(tree):
    """The lines in which sorted, min or max takes something that is not plainly whole numbers."""
    for node in ast.walk(tree):
        if isinstance(node, ast.Call) and isinstance(node.func, ast.Name) and node.func.id in ("sorted", "min", "max"):
            only = node.args[0] if len(node.args) == 1 and not node.keywords else None
            if not (isinstance(only, ast.ListComp) and ast.unparse(only.elt).startswith("int(")):
                yield node.lineno
