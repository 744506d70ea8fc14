"""Rules about what is changed: loops and what they iterate over, and what operators may do."""

import ast

import language_tables as tables

CREATORS = {"list", "dict", "sorted"}


def check(checker):
    graph = CallGraph(checker)
    for module in checker.modules:
        for node in ast.walk(module.tree):
            if isinstance(node, ast.For):
                check_loop(checker, module, node)
            if isinstance(node, ast.FunctionDef) and node.name in ("__eq__", "__len__", "__str__",
                                                                   "__repr__"):
                check_quiet(checker, module, node)
    for module, node in graph.pure_functions():
        check_pure(checker, module, node)


def root_of(node):
    """The source of what is changed, without an index at its end."""
    while isinstance(node, ast.Subscript):
        node = node.value
    return ast.unparse(node)


def changes_in(node):
    """The pairs (root, node) of all that is changed by an item, a method or del."""
    for inner in ast.walk(node):
        if isinstance(inner, ast.Subscript) and isinstance(inner.ctx, (ast.Store, ast.Del)):
            yield root_of(inner.value), inner
        if isinstance(inner, ast.Call) and isinstance(inner.func, ast.Attribute):
            if inner.func.attr in tables.MODIFIERS:
                yield ast.unparse(inner.func.value), inner
        if isinstance(inner, ast.Call) and getattr(inner.func, "id", "") in tables.LIBRARY["heapq"]:
            yield ast.unparse(inner.args[0]), inner


def iterated(node):
    """The sources of what a loop iterates over."""
    if isinstance(node, ast.Call):
        name = getattr(node.func, "id", "")
        if name in ("enumerate", "zip", "reversed"):
            return [source for item in node.args for source in iterated(item)]
        if isinstance(node.func, ast.Attribute) and node.func.attr in ("items", "keys", "values"):
            return [ast.unparse(node.func.value)]
        return []
    if isinstance(node, ast.IfExp):
        return iterated(node.body) + iterated(node.orelse)
    return [ast.unparse(node)]


def check_loop(checker, module, node):
    sources = iterated(node.iter)
    for statement in node.body:
        for root, inner in changes_in(statement):
            if root in sources:
                checker.tell(module, inner, "L23", f"{root} is changed while it is iterated over")


def check_quiet(checker, module, node):
    for inner in ast.walk(node):
        if isinstance(inner, (ast.Assign, ast.AnnAssign, ast.For, ast.While, ast.Delete)):
            checker.tell(module, inner, "L28", f"{node.name} assigns something")
    if node.name != "__eq__" and not isinstance(node.body[-1], ast.Return):
        checker.tell(module, node, "L28", f"{node.name} does not end with a return")


def created_names(node):
    """The local variables of a function that hold lists and dicts that it creates itself."""
    names, others = set(), set()
    for argument in node.args.args + node.args.kwonlyargs:
        others.add(argument.arg)
    for inner in ast.walk(node):
        if isinstance(inner, ast.Assign):
            for target in inner.targets:
                if isinstance(target, ast.Name):
                    (names if is_created(inner.value) else others).add(target.id)
                else:
                    others.update(item.id for item in ast.walk(target)
                                  if isinstance(item, ast.Name) and isinstance(item.ctx, ast.Store))
        if isinstance(inner, (ast.For, ast.comprehension)):
            others.update(item.id for item in ast.walk(inner.target) if isinstance(item, ast.Name))
    return names - others


def is_created(node):
    if isinstance(node, (ast.List, ast.Dict, ast.ListComp)):
        return True
    return isinstance(node, ast.Call) and getattr(node.func, "id", "") in CREATORS


def is_literal_number(node):
    return isinstance(node, ast.Constant) and isinstance(node.value, int)


def local_names(node):
    """The parameters and local variables of a function, those of its comprehensions among them."""
    names = {inner.arg for inner in ast.walk(node) if isinstance(inner, ast.arg)}
    return names | {inner.id for inner in ast.walk(node)
                    if isinstance(inner, ast.Name) and isinstance(inner.ctx, ast.Store)}


def check_pure(checker, module, node):
    """What an operator, a property or __eq__ runs changes nothing but what it creates itself."""
    own = created_names(node)
    for root, inner in changes_in(node):
        if root not in own:
            checker.tell(module, inner, "L5", f"an operator runs this, and {root} is changed")
    for inner in ast.walk(node):
        if isinstance(inner, ast.Attribute) and isinstance(inner.ctx, ast.Store):
            if node.name != "__init__":
                checker.tell(module, inner, "L5", "an operator runs this, and it assigns an attribute")
        if isinstance(inner, ast.AugAssign):
            plain = isinstance(inner.op, ast.Add) and is_literal_number(inner.value)
            if not plain and not isinstance(inner.op, (ast.Sub, ast.FloorDiv)):
                checker.tell(module, inner, "L5", "an operator runs this augmented assignment")
        if isinstance(inner, ast.Call) and calls_what_is_held(checker, node, inner.func):
            checker.tell(module, inner, "L5", "an operator runs this, and calls what it is passed or holds")


def calls_what_is_held(checker, node, func):
    """Whether a call in a function may call what the function is passed, or what an object holds."""
    if isinstance(func, ast.Name):
        return func.id in local_names(node) or func.id == "map"
    # The attribute of some class may be what is called, also where a builtin value has such a method.
    return not isinstance(func, ast.Attribute) or func.attr in checker.assigned


class CallGraph:
    """Which functions and methods an operator, a property or __eq__ may come to."""

    def __init__(self, checker):
        self.checker = checker
        self.functions = {}
        self.inits = {}
        for module in checker.modules:
            for node in module.tree.body:
                if isinstance(node, ast.FunctionDef):
                    self.functions.setdefault(node.name, []).append((module, node))
                if isinstance(node, ast.ClassDef):
                    for item in node.body:
                        if isinstance(item, ast.FunctionDef) and item.name == "__init__":
                            self.inits[node.name] = (module, item)

    def starts(self):
        pure = tables.OPERATORS - tables.IN_PLACE | tables.ALONE
        pure = pure | {"__eq__", "__len__", "__str__", "__repr__"}
        for name, found in self.checker.methods.items():
            for module, _, item in found:
                if name in pure or any(getattr(deco, "id", "") == "property"
                                       for deco in item.decorator_list):
                    yield module, item

    def pure_functions(self):
        waiting = list(self.starts())
        met = []
        while waiting:
            module, node = waiting.pop()
            if node in met:
                continue
            met.append(node)
            yield module, node
            for inner in ast.walk(node):
                if isinstance(inner, ast.Call):
                    waiting.extend(self.called(inner.func))

    def called(self, func):
        if isinstance(func, ast.Name):
            found = list(self.functions.get(func.id, []))
            if func.id in self.inits:
                found.append(self.inits[func.id])
            return found
        if isinstance(func, ast.Attribute):
            return [(module, item) for module, _, item in self.checker.methods.get(func.attr, [])]
        return []
