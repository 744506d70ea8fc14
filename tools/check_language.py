"""Hold a package against those rules of the language that a script can see.

python3 tools/check_language.py growwebs prints a line for each breach and fails if there is one.
Where the rules allow something only under conditions that are hard to see, the script is stricter.
"""

import ast
import builtins
import re
import sys
from pathlib import Path

sys.path.insert(0, str(Path(__file__).parent))

import language_flow  # noqa: E402
import language_tables as tables  # noqa: E402

PLAIN_NAME = re.compile(r"^[A-Za-z][A-Za-z0-9_]*$")
OWN_NAME = re.compile(r"^(_|_?[A-Za-z][A-Za-z0-9_]*)$")


class Module:
    """A file of the package, read."""

    def __init__(self, path, package):
        self.path = path
        self.text = path.read_text(encoding="utf-8")
        self.tree = ast.parse(self.text)
        parts = path.relative_to(package.parent).with_suffix("").parts
        self.name = ".".join(parts[:-1] if parts[-1] == "__init__" else parts)
        for node in ast.walk(self.tree):
            for child in ast.iter_child_nodes(node):
                child.parent = node


class Checker:
    """Collects the breaches of all files of a package."""

    def __init__(self, package):
        self.package = Path(package)
        self.found = []
        self.modules = []

    def tell(self, module, node, rule, why):
        line = node if isinstance(node, int) else getattr(node, "lineno", 1)
        self.found.append(f"{module.path}:{line}: {rule}: {why}")

    def run(self):
        self.check_files()
        self.defined = {}
        self.methods = {}
        self.classes = set()
        self.assigned = set()
        for module in self.modules:
            self.collect(module)
        for module in self.modules:
            self.check_text(module)
            self.check_top(module)
            self.check_bindings(module)
            for node in ast.walk(module.tree):
                self.check_node(module, node)
        self.check_cycles()
        language_flow.check(self)
        return self.found

    def check_files(self):
        for path in sorted(self.package.rglob("*")):
            if "__pycache__" in path.parts:
                continue
            if path.is_dir():
                if not (path / "__init__.py").is_file():
                    self.found.append(f"{path}: L14: a folder without __init__.py")
            elif path.suffix != ".py":
                self.found.append(f"{path}: L1: not a .py file")
            else:
                self.check_file_name(path)
                try:
                    self.modules.append(Module(path, self.package))
                except (UnicodeDecodeError, SyntaxError) as why:
                    self.found.append(f"{path}: L1: cannot be read: {why}")
        if not (self.package / "__init__.py").is_file():
            self.found.append(f"{self.package}: L14: no __init__.py")
        if len(self.modules) > 100:
            self.found.append(f"{self.package}: L14: more than 100 files")

    def check_file_name(self, path):
        stem = path.stem
        if stem in ("__init__", "__main__"):
            return
        if not PLAIN_NAME.match(stem) or stem != stem.lower():
            self.found.append(f"{path}: L1: the name of the file is not plain")
        barred = stem in tables.NO_FILES or stem in tables.NO_WORDS or hasattr(builtins, stem)
        if barred or stem.startswith(("law_", "test_")) or (path.parent / stem).is_dir():
            self.found.append(f"{path}: L14: a file may not be called so")

    def collect(self, module):
        top = {}
        for node in module.tree.body:
            if isinstance(node, (ast.FunctionDef, ast.ClassDef)):
                top[node.name] = node
            elif isinstance(node, ast.Assign):
                for target in node.targets:
                    top[getattr(target, "id", "")] = node
        self.defined[module.name] = top
        for node in ast.walk(module.tree):
            if isinstance(node, ast.ClassDef):
                self.classes.add(node.name)
                for item in node.body:
                    if isinstance(item, ast.FunctionDef):
                        self.methods.setdefault(item.name, []).append((module, node, item))
            if isinstance(node, ast.Attribute) and isinstance(node.ctx, ast.Store):
                self.assigned.add(node.attr)

    def check_text(self, module):
        lines = module.text.split("\n")
        if len(lines) - (lines[-1] == "") > 399:
            self.tell(module, 1, "L10", "the file has more than 399 lines")
        for number, line in enumerate(lines, 1):
            if len(line) > 120:
                self.tell(module, number, "L10", "the line has more than 120 characters")
            if any(not " " <= sign <= "~" for sign in line):
                self.tell(module, number, "L14", "a character that is not plain")
            if re.search(r"\b(_wall|_WallAttr)\b", line):
                self.tell(module, number, "L12", "a word that may not stand in a file")

    def check_top(self, module):
        begun = False
        for index, node in enumerate(module.tree.body):
            if isinstance(node, ast.Expr) and isinstance(node.value, ast.Constant) and index == 0:
                continue
            if isinstance(node, ast.ImportFrom):
                if begun:
                    self.tell(module, node, "L2", "an import that is not at the top")
                continue
            begun = True
            if isinstance(node, (ast.FunctionDef, ast.ClassDef)):
                continue
            if isinstance(node, ast.Assign) and len(node.targets) == 1 \
                    and isinstance(node.targets[0], ast.Name):
                self.check_constant(module, node)
                continue
            if isinstance(node, ast.If) and module.path.name == "__main__.py":
                continue
            self.tell(module, node, "L3", "a statement that may not stand at module level")

    def check_constant(self, module, node):
        allowed = (ast.Constant, ast.List, ast.Tuple, ast.Dict, ast.Name, ast.BinOp, ast.UnaryOp,
                   ast.operator, ast.unaryop, ast.expr_context)
        for inner in ast.walk(node.value):
            if not isinstance(inner, allowed):
                self.tell(module, inner, "L3", "a value at module level that is not plain")
            if inner is not node.value and isinstance(inner, (ast.List, ast.Dict)):
                self.tell(module, inner, "L15", "a list or dict inside a value at module level")

    def check_bindings(self, module):
        seen = {}
        imports = set()
        for node in module.tree.body:
            names = []
            if isinstance(node, (ast.FunctionDef, ast.ClassDef)):
                names = [node.name]
            elif isinstance(node, ast.ImportFrom):
                names = [alias.asname or alias.name for alias in node.names]
                imports.update(names)
            elif isinstance(node, ast.Assign):
                names = [target.id for target in node.targets if isinstance(target, ast.Name)]
            for name in names:
                if name in seen:
                    self.tell(module, node, "L15", f"{name} is bound twice")
                seen[name] = node
        classes = {name for name, node in seen.items() if isinstance(node, ast.ClassDef)}
        for node in ast.walk(module.tree):
            for name in local_names(node):
                if name in classes or name in imports:
                    self.tell(module, node, "L15", f"{name} is a class or an import of the file")

    def check_cycles(self):
        names = {module.name for module in self.modules}
        lines = {module.name: set() for module in self.modules}
        for module in self.modules:
            for node in ast.walk(module.tree):
                if isinstance(node, ast.ImportFrom) and node.module in names:
                    lines[module.name].add(node.module)
        for start in sorted(lines):
            met, waiting = set(), list(lines[start])
            while waiting:
                name = waiting.pop()
                if name == start:
                    self.found.append(f"{start}: L16: the file imports from itself in a ring")
                    break
                if name not in met:
                    met.add(name)
                    waiting.extend(lines[name])

    def check_node(self, module, node):
        for kind, check in CHECKS:
            if isinstance(node, kind):
                check(self, module, node)


def local_names(node):
    """The names that a node binds in a function: variables, parameters and nested functions."""
    if isinstance(node, ast.arg):
        return [node.arg]
    if isinstance(node, ast.Name) and isinstance(node.ctx, ast.Store) and function_of(node):
        return [node.id]
    if isinstance(node, ast.FunctionDef) and isinstance(node.parent, ast.FunctionDef):
        return [node.name]
    return []


def function_of(node):
    """The function in which a node stands, or None."""
    node = getattr(node, "parent", None)
    while node is not None and not isinstance(node, (ast.FunctionDef, ast.Lambda)):
        node = getattr(node, "parent", None)
    return node


def is_docstring(node):
    return isinstance(getattr(node, "parent", None), ast.Expr)


def check_import(self, module, node):
    if node.level:
        self.tell(module, node, "L2", "an import with a leading dot")
    for alias in node.names:
        if node.module in tables.LIBRARY:
            if alias.name not in tables.LIBRARY[node.module] or alias.asname:
                self.tell(module, node, "L2", f"{alias.name} may not be imported so")
        elif node.module == "__future__":
            continue
        elif not (node.module or "").startswith(self.package.name + "."):
            self.tell(module, node, "L2", f"an import from {node.module}")
        elif alias.name == "*" or alias.asname:
            self.tell(module, node, "L2", "an import of all, or under another name")
        elif alias.name not in self.defined.get(node.module, {}):
            self.tell(module, node, "L16", f"{alias.name} is not defined in {node.module}")


def check_plain_import(self, module, node):
    if module.path.name != "__main__.py" or [alias.name for alias in node.names] != ["sys"]:
        self.tell(module, node, "L2", "an import that is not from .. import ..")


def check_statement(self, module, node):
    self.tell(module, node, "L6", f"the statement {node.__class__.__name__} is not used")


def check_name(self, module, node):
    name = node.id
    if name in tables.LIBRARY_NAMES:
        if not (isinstance(node.parent, ast.Call) and node.parent.func is node):
            self.tell(module, node, "L2", f"{name} is only called")
        elif node.parent.keywords or function_of(node) is None:
            self.tell(module, node, "L2", f"{name} is called in a function, by position")
    if isinstance(node.ctx, ast.Load):
        if name == "_":
            self.tell(module, node, "L12", "_ is read")
        if hasattr(builtins, name) and name not in tables.BUILTINS:
            if not (name == "print" and module.path.name == "__main__.py"):
                self.tell(module, node, "L8", f"the builtin {name} is not used")
    else:
        check_own_name(self, module, node, name)


def check_own_name(self, module, node, name):
    if not OWN_NAME.match(name):
        self.tell(module, node, "L12", f"the name {name} is not plain")
    if hasattr(builtins, name) or name in tables.BUILTINS:
        self.tell(module, node, "L15", f"{name} is the name of a builtin")
    if name in tables.NOT_NAMES or name in tables.NOWHERE or name in tables.FRAME_NAMES:
        self.tell(module, node, "L17", f"the name {name} is not used")
    if name.startswith(tables.NO_STARTS) or name.rstrip("0123456789_") in tables.NO_PRIVATE:
        self.tell(module, node, "L12", f"the name {name} is not used")


def check_argument(self, module, node):
    check_own_name(self, module, node, node.arg)


def check_attribute(self, module, node):
    name = node.attr
    if name in tables.NOWHERE or name in tables.FRAME_NAMES or name in ("format", "format_map"):
        self.tell(module, node, "L17", f"the attribute {name} is not used")
    if name.startswith("__"):
        self.tell(module, node, "L8", f"the attribute {name} is not used")
    if isinstance(node.ctx, ast.Store):
        if name in tables.BUILTIN_ATTRIBUTES and name not in tables.FREE_ATTRIBUTES:
            self.tell(module, node, "L26", f"no attribute is called {name}")
        if not isinstance(node.value, ast.Name):
            self.tell(module, node, "L18", "an attribute is assigned through a local name")
        return
    called = isinstance(node.parent, ast.Call) and node.parent.func is node
    if called and name not in self.methods and name not in tables.METHODS:
        if name not in self.assigned:
            self.tell(module, node, "L25", f"the method {name} is not used")
    if name in self.assigned and is_property(self, name):
        self.tell(module, node, "L18", f"{name} is a property and an attribute")
    if not called and name not in self.assigned and not is_property(self, name):
        self.tell(module, node, "L18", f"no class assigns the attribute {name}")


def is_property(self, name):
    return any(item.decorator_list for _, _, item in self.methods.get(name, []))


def is_plain_star(value):
    """Whether what stands behind a star in a call is a name, an attribute off a name, or such."""
    if isinstance(value, (ast.List, ast.Tuple)):
        return all(is_plain_star(item) for item in value.elts)
    if isinstance(value, ast.Attribute):
        return isinstance(value.value, ast.Name)
    return isinstance(value, (ast.Name, ast.Constant))


def check_call(self, module, node):
    for item in node.args:
        if isinstance(item, ast.Starred) and not is_plain_star(item.value):
            self.tell(module, node, "L7", "what may not stand behind a star")
    if isinstance(node.func, ast.Constant):
        self.tell(module, node, "L7", "a literal is called")
    if not isinstance(node.func, ast.Name):
        return
    name = node.func.id
    if hasattr(builtins, name):
        given = {keyword.arg for keyword in node.keywords}
        if given - tables.KEYWORDS.get(name, set()):
            self.tell(module, node, "L22", f"a keyword of {name}")
    if name == "isinstance" and len(node.args) == 2:
        check_classes(self, module, node.args[1])
    if name == "set":
        check_set(self, module, node)
    if name in ("zip", "enumerate", "reversed") and not is_iterated(node):
        self.tell(module, node, "L23", f"{name} is not iterated at once")


def check_classes(self, module, node):
    for item in node.elts if isinstance(node, ast.Tuple) else [node]:
        known = {"int", "str", "bool", "bytes", "list", "tuple", "dict"} | self.classes
        if not isinstance(item, ast.Name) or item.id not in known:
            self.tell(module, node, "L22", "isinstance of this")


def is_iterated(node):
    above = node.parent
    if isinstance(above, (ast.For, ast.comprehension)):
        return above.iter is node
    if isinstance(above, ast.Call) and isinstance(above.func, ast.Name):
        return above.func.id in ("list", "tuple", "dict", "sorted", "sum", "any", "all",
                                 "enumerate", "zip", "min", "max") and above.args[0] is node
    return isinstance(above, ast.Call) and isinstance(above.func, ast.Attribute)


def check_set(self, module, node):
    above = node.parent
    if isinstance(node, ast.Set) and sum(is_number(item) for item in node.elts) > 2:
        self.tell(module, node, "L13", "a literal set of three integers")
    if isinstance(node, ast.Call) and node.args and isinstance(node.args[0], ast.SetComp):
        self.tell(module, node, "L24", "a set of a set")
    if isinstance(above, ast.Call) and isinstance(above.func, ast.Name):
        if above.func.id in ("sorted", "len") and not above.keywords:
            return
    if isinstance(above, ast.Compare):
        return
    if isinstance(above, ast.Assign) and isinstance(above.targets[0], ast.Name):
        return
    self.tell(module, node, "L24", "a set may not stand here")


def is_number(node):
    return isinstance(node, ast.Constant) and isinstance(node.value, int)


def check_literal(self, module, node):
    value = node.value
    if isinstance(value, (float, complex)):
        self.tell(module, node, "L7", "a float")
    if isinstance(value, int) and len(str(abs(value))) > 900:
        self.tell(module, node, "L27", "a number of more than 900 digits")
    if isinstance(value, str):
        check_string(self, module, node, value)


def check_string(self, module, node, value):
    if "%" in value:
        self.tell(module, node, "L27", "the percent sign in a string")
    if is_docstring(node):
        return
    if value.endswith(("._", ".__")) or value in tables.FRAME_NAMES:
        self.tell(module, node, "L27", "a string that is not used")
    if value.startswith("__") and value.endswith("__") and value != "__main__":
        self.tell(module, node, "L27", "a string with underscores around it")
    words = set(re.findall(r"[A-Za-z_]+", value))
    if words & (tables.NO_WORDS - {"type"}) or any(part in value for part in tables.NO_PARTS):
        self.tell(module, node, "L17", "a word that does not occur in a file")


def check_operator(self, module, node):
    if isinstance(node.op, (ast.Div, ast.MatMult)):
        self.tell(module, node, "L7", "a division into fractions")
    if isinstance(node.op, ast.Pow) and isinstance(node, ast.BinOp):
        if not (is_number(node.right) and 0 <= node.right.value <= 64) \
                and is_number(node.left):
            self.tell(module, node, "L27", "a power of a literal to what is no literal to 64")


def check_compare(self, module, node):
    sides = [node.left] + node.comparators
    for op, one, other in zip(node.ops, sides, sides[1:]):
        if isinstance(op, (ast.Is, ast.IsNot)):
            plain = [side for side in (one, other)
                     if isinstance(side, ast.Constant) and side.value in (None, True, False)]
            own = [side for side in (one, other) if getattr(side, "id", "") == "self"]
            if not plain and not own:
                self.tell(module, node, "L20", "is without None, True, False or self")


def check_generator(self, module, node):
    above = node.parent
    name = getattr(getattr(above, "func", None), "id", "")
    if name not in ("list", "tuple", "dict"):
        self.tell(module, node, "L7", "a generator expression may not stand here")


def check_raise(self, module, node):
    error = node.exc
    if error is None:
        return
    if not isinstance(error, ast.Call) or not isinstance(error.func, ast.Name):
        self.tell(module, node, "L19", "an error that is not created on the spot")


def check_handler(self, module, node):
    kinds = node.type.elts if isinstance(node.type, ast.Tuple) else [node.type]
    for kind in kinds:
        name = getattr(kind, "id", "")
        if name not in self.classes and name not in tables.CATCHABLE:
            self.tell(module, node, "L19", "an error that is not caught")


def check_function(self, module, node):
    if node.end_lineno - node.lineno + 1 > 40:
        self.tell(module, node, "L10", f"the function {node.name} has more than 40 lines")
    for item in node.decorator_list:
        plain = isinstance(item, ast.Name) and item.id in ("property", "staticmethod",
                                                           "classmethod")
        setter = isinstance(item, ast.Attribute) and item.attr == "setter"
        if not (plain or setter) or not isinstance(node.parent, ast.ClassDef):
            self.tell(module, node, "L4", "a decorator")
    for default in node.args.defaults + [item for item in node.args.kw_defaults if item]:
        for inner in ast.walk(default):
            if isinstance(inner, (ast.Call, ast.List, ast.Dict, ast.Set, ast.Compare)):
                self.tell(module, node, "L4", "a default value that is not plain")
    if isinstance(node.parent, ast.ClassDef):
        check_method(self, module, node)
    else:
        check_own_name(self, module, node, node.name)
        if node.name.startswith("__"):
            self.tell(module, node, "L28", f"{node.name} outside of a class")


def check_method(self, module, node):
    name = node.name
    if name.startswith("__"):
        if name not in tables.DUNDERS:
            self.tell(module, node, "L5", f"the method {name} is not used")
        given = len(node.args.args)
        if name in tables.OPERATORS and given != 2 or name in tables.ALONE and given != 1:
            self.tell(module, node, "L5", f"{name} with other parameters")
        return
    if not OWN_NAME.match(name) or name in tables.NOWHERE or name in tables.NOT_NAMES:
        self.tell(module, node, "L17", f"no method is called {name}")
    if name in tables.BUILTIN_ATTRIBUTES and name not in tables.FREE_METHODS:
        self.tell(module, node, "L26", f"no method is called {name}")
    if name in tables.BUILTINS:
        self.tell(module, node, "L8", f"no method is called {name}")


def check_class(self, module, node):
    check_own_name(self, module, node, node.name)
    if node.decorator_list or node.keywords:
        self.tell(module, node, "L5", "a class with a decorator or a keyword")
    if not isinstance(node.parent, ast.Module):
        self.tell(module, node, "L15", "a class that is not at module level")
    own = {item.name for item in node.body if isinstance(item, ast.FunctionDef)}
    stored = {inner.attr for inner in ast.walk(node) if isinstance(inner, ast.Attribute)
              and isinstance(inner.ctx, ast.Store) and getattr(inner.value, "id", "") == "self"}
    for name in sorted(own & stored):
        self.tell(module, node, "L18", f"{name} is a method and an attribute")
    if len(own) != len([item for item in node.body if isinstance(item, ast.FunctionDef)]):
        self.tell(module, node, "L18", "a method is defined twice")
    for item in node.body:
        plain = isinstance(item, (ast.FunctionDef, ast.Assign, ast.Pass)) or \
            isinstance(item, ast.Expr) and isinstance(item.value, ast.Constant)
        if not plain:
            self.tell(module, item, "L5", "what may not stand in a class")
    for base in node.bases:
        if getattr(base, "id", "") not in self.classes | {"ValueError", "Exception"}:
            self.tell(module, node, "L5", "a base class that is not known")


CHECKS = (
    (ast.ImportFrom, check_import),
    (ast.Import, check_plain_import),
    ((ast.Global, ast.AsyncFunctionDef, ast.AsyncFor, ast.AsyncWith, ast.Await, ast.TryStar),
     check_statement),
    (ast.Name, check_name),
    (ast.arg, check_argument),
    (ast.Attribute, check_attribute),
    (ast.Call, check_call),
    ((ast.Set, ast.SetComp), check_set),
    (ast.Constant, check_literal),
    ((ast.BinOp, ast.AugAssign), check_operator),
    (ast.Compare, check_compare),
    (ast.GeneratorExp, check_generator),
    (ast.Raise, check_raise),
    (ast.ExceptHandler, check_handler),
    (ast.FunctionDef, check_function),
    (ast.ClassDef, check_class),
)


def main(argv):
    if len(argv) != 2:
        print("usage: check_language.py PACKAGE")
        return 2
    checker = Checker(argv[1])
    found = checker.run()
    for line in found:
        print(line)
    print(f"language: {len(checker.modules)} files, {len(found)} breaches")
    return 1 if found or not checker.modules else 0


if __name__ == "__main__":
    sys.exit(main(sys.argv))
