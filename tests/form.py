"""Checks of the form of the package: those rules of ../shared/LANGUAGE.md that can be seen file by file.

`faults(folder)` returns a list of tuples (rule, file, line, text). It is narrower than the rules in
places: what it refuses is either barred or not needed so far.
"""

import ast
import builtins
import re
from pathlib import Path

BUILTINS = set(
    "len range enumerate zip min max sum abs sorted reversed int str bool bytes list tuple dict set frozenset"
    " isinstance ord repr any all divmod iter next map Exception ValueError TypeError KeyError IndexError LookupError"
    " ZeroDivisionError ArithmeticError OverflowError RuntimeError NotImplementedError AttributeError StopIteration"
    " NotImplemented super property staticmethod classmethod".split()
)
METHODS = set(
    "append clear copy count endswith extend find get index insert isalnum isalpha isdigit islower isspace isupper"
    " items join keys ljust lower lstrip partition pop remove replace reverse rfind rjust rpartition rsplit rstrip"
    " setdefault split splitlines startswith strip update upper values zfill bit_length isascii isdecimal"
    " removeprefix removesuffix".split()
)
DUNDERS = set(
    "init eq repr str len enter exit call iter lt le gt ge ne add sub mul floordiv mod pow and or xor lshift rshift"
    " iadd isub imul ifloordiv imod iand ior ixor neg pos invert abs bool contains getitem setitem".split()
)
BARRED_WORDS = set(
    "typing typing_extensions enum Enum IntEnum StrEnum Flag IntFlag Generic Protocol ABC ABCMeta namedtuple"
    " NamedTuple TypedDict TYPE_CHECKING abstractmethod".split()
)
BARRED_NAMES = set(
    "register mro elements open input law version_info with_traceback add_note attrgetter breakpoint builtins compile"
    " copyright credits delattr dir eval exec exit gc getattr globals hasattr help id importlib license locals"
    " methodcaller os quit setattr type vars sys".split()
)
BUILTIN_ATTRIBUTES = {name for kind in (str, int, list, dict, set, bytes) for name in dir(kind)}
FREE_METHOD_NAMES = METHODS | {"add", "discard"}
AT_ONCE = {"zip", "enumerate", "reversed"}
VIEWS = {"items", "keys", "values"}
TAKERS = {"list", "tuple", "dict", "sorted", "sum", "any", "all", "enumerate", "zip", "min", "max"}
STATEMENTS = (
    ast.Assign, ast.AugAssign, ast.If, ast.While, ast.For, ast.Return, ast.Break, ast.Continue, ast.Pass, ast.Raise,
    ast.Assert, ast.Delete, ast.Nonlocal, ast.With, ast.Try, ast.Expr, ast.FunctionDef, ast.ClassDef, ast.ImportFrom,
    ast.Match,
)


class File:
    """One file of the package, read."""

    def __init__(self, path, package):
        self.path = path
        self.module = package if path.stem == "__init__" else f"{package}.{path.stem}"
        self.text = path.read_text(encoding="utf-8")
        self.tree = ast.parse(self.text)
        self.imports = [node for node in self.tree.body if isinstance(node, ast.ImportFrom)]
        self.defined = {}
        for node in self.tree.body:
            if isinstance(node, (ast.FunctionDef, ast.ClassDef)):
                self.defined[node.name] = node
            elif isinstance(node, ast.Assign):
                self.defined[node.targets[0].id] = node
        self.parents = {child: node for node in ast.walk(self.tree) for child in ast.iter_child_nodes(node)}


def faults(folder):
    """The faults of all files of the package in this folder."""
    found = []
    files = [File(path, folder.name) for path in sorted(folder.glob("*.py"))]
    for path in folder.iterdir():
        if path.suffix != ".py" and path.name != "__pycache__":
            found.append(("L1", path.name, 0, "no .py file"))
    own = own_methods(files)
    for file in files:
        for check in CHECKS:
            for rule, line, text in check(file, files, own):
                found.append((rule, file.path.name, line, text))
    found.extend(ring_faults(files))
    return found


def own_methods(files):
    """The names of all methods of the package."""
    names = set()
    for file in files:
        for node in ast.walk(file.tree):
            if isinstance(node, ast.ClassDef):
                names.update(part.name for part in node.body if isinstance(part, ast.FunctionDef))
    return names


def text_faults(file, files, own):
    lines = file.text.split("\n")
    if len(lines) > 400:
        yield "L10", len(lines), "file too long"
    for at, line in enumerate(lines, start=1):
        if len(line) > 120:
            yield "L10", at, "line too long"
        if re.search("[^ -~]", line):
            yield "L14", at, "character"
        if re.search(r"dataclass|overload|contextmanager|_wall|\(type\)|Meta|metaclass=", line):
            yield "L17", at, line.strip()
        for word in re.findall("[A-Za-z_]+", line):
            if word in BARRED_WORDS:
                yield "L17", at, word


def import_faults(file, files, own):
    by_name = {other.module: other for other in files}
    for node in ast.walk(file.tree):
        if isinstance(node, ast.Import) or (isinstance(node, ast.ImportFrom) and node not in file.tree.body):
            yield "L2", node.lineno, "import"
    for node in file.imports:
        if node.level or node.module not in by_name:
            yield "L2", node.lineno, "import from elsewhere"
            continue
        for alias in node.names:
            if alias.asname is not None or alias.name not in by_name[node.module].defined:
                yield "L16", node.lineno, alias.name


def ring_faults(files):
    leads = {file.module: {node.module for node in file.imports} for file in files}
    for start in leads:
        reached, waiting = set(), list(leads[start])
        while waiting:
            module = waiting.pop()
            if module not in reached:
                reached.add(module)
                waiting.extend(leads.get(module, ()))
        if start in reached:
            yield "L16", start, 0, "imports itself"


def is_plain(node):
    if isinstance(node, ast.Constant):
        return not isinstance(node.value, (float, complex))
    if isinstance(node, ast.UnaryOp):
        return isinstance(node.op, ast.USub) and is_plain(node.operand)
    if isinstance(node, (ast.Tuple, ast.List)):
        return all(is_plain(part) for part in node.elts)
    if isinstance(node, ast.Dict):
        return all(is_plain(part) for part in [*node.keys, *node.values])
    return False


def top_faults(file, files, own):
    bound = [alias.name for node in file.imports for alias in node.names]
    for at, node in enumerate(file.tree.body):
        doc = isinstance(node, ast.Expr) and isinstance(node.value, ast.Constant) and at == 0
        if isinstance(node, ast.Assign):
            bound.append(node.targets[0].id)
            if len(node.targets) > 1 or not is_plain(node.value):
                yield "L3", node.lineno, "value at module level"
        elif isinstance(node, (ast.FunctionDef, ast.ClassDef)):
            bound.append(node.name)
        elif not doc and not isinstance(node, ast.ImportFrom):
            yield "L3", node.lineno, "statement at module level"
        if isinstance(node, ast.ImportFrom):
            ahead = [part for part in file.tree.body[:at] if not isinstance(part, (ast.ImportFrom, ast.Expr))]
            if ahead:
                yield "L2", node.lineno, "import not at the top"
    for name in bound:
        if bound.count(name) > 1:
            yield "L15", 0, name


def bound_names(function):
    """The parameters and the names that a function assigns."""
    names = [part.arg for part in ast.walk(function.args) if isinstance(part, ast.arg)]
    names += [node.id for node in ast.walk(function) if isinstance(node, ast.Name) and isinstance(node.ctx, ast.Store)]
    return names


def name_faults(file, files, own):
    imported = {alias.name for node in file.imports for alias in node.names}
    classes = {name for name, node in file.defined.items() if isinstance(node, ast.ClassDef)}
    standard = set(dir(builtins))
    for node in ast.walk(file.tree):
        if isinstance(node, ast.FunctionDef):
            names = bound_names(node)
            for name in names:
                if name in imported | classes | standard | BARRED_NAMES:
                    yield "L15", node.lineno, name
                if name.startswith("__"):
                    yield "L8", node.lineno, name
            inner = [part for part in ast.walk(node) if isinstance(part, ast.Name) and isinstance(part.ctx, ast.Load)]
            for part in inner:
                if part.id == "_":
                    yield "L12", part.lineno, "_ is read"
    for name in file.defined:
        if name in standard | BARRED_NAMES:
            yield "L15", file.defined[name].lineno, name
    known = imported | set(file.defined) | BUILTINS
    setters = [part for node in ast.walk(file.tree) if isinstance(node, ast.FunctionDef) for part in node.decorator_list]
    over = {part.value for part in setters if isinstance(part, ast.Attribute)}
    for node in ast.walk(file.tree):
        if node in over:
            continue
        if isinstance(node, ast.Name) and isinstance(node.ctx, ast.Load) and node.id not in known:
            up = node
            while up in file.parents and not isinstance(up, ast.FunctionDef):
                up = file.parents[up]
            if not isinstance(up, ast.FunctionDef) or node.id not in bound_names(up):
                yield "L8", node.lineno, node.id


def is_call_of(node, names):
    return isinstance(node, ast.Call) and isinstance(node.func, ast.Name) and node.func.id in names


def plainly_number_or_string(node):
    if isinstance(node, (ast.Constant, ast.JoinedStr)):
        return True
    if isinstance(node, ast.BinOp):
        return plainly_number_or_string(node.left) and plainly_number_or_string(node.right)
    return is_call_of(node, {"len", "int", "ord", "str", "repr"})


def sortable(node):
    if isinstance(node, ast.ListComp):
        return plainly_number_or_string(node.elt)
    if isinstance(node, ast.List):
        return all(plainly_number_or_string(part) for part in node.elts)
    return is_call_of(node, {"range"})


def call_faults(file, node, own):
    if isinstance(node.func, ast.Attribute):
        name = node.func.attr
        if name not in METHODS and name not in own:
            yield "L25", node.lineno, name
        if name in METHODS and node.keywords:
            yield "L25", node.lineno, f"keywords of {name}"
        if name == "sort":
            yield "L25", node.lineno, "sort"
    elif not isinstance(node.func, ast.Name):
        yield "L5", node.lineno, "call of a result"
    if is_call_of(node, {"sorted", "min", "max"}):
        fine = sortable(node.args[0]) if len(node.args) == 1 else any(plainly_number_or_string(a) for a in node.args)
        if not fine:
            yield "L5", node.lineno, "sorted, min or max of what may be objects"
    if is_call_of(node, AT_ONCE) or is_view(node):
        if not is_iterated(file, node):
            yield "L23", node.lineno, "not iterated at once"
    if is_call_of(node, {"set", "frozenset", "map", "chr", "print", "property"}):
        yield "L24", node.lineno, node.func.id
    if is_call_of(node, {"reversed"}) and not is_call_of(node.args[0], {"list", "tuple", "sorted", "range"}):
        yield "L5", node.lineno, "reversed"


def is_view(node):
    return isinstance(node, ast.Call) and isinstance(node.func, ast.Attribute) and node.func.attr in VIEWS


def is_iterated(file, node):
    """Whether this is iterated on the spot: in a for, or as the first argument of list and its like."""
    parent = file.parents[node]
    if isinstance(parent, (ast.For, ast.comprehension)):
        return parent.iter is node
    return is_call_of(parent, TAKERS) and parent.args[:1] == [node]


def is_used_as_range(file, node):
    """Whether this, a range or a name that keeps one, is iterated on the spot, measured, asked or indexed."""
    parent = file.parents[node]
    if isinstance(parent, ast.Compare):
        return node in parent.comparators and all(isinstance(op, (ast.In, ast.NotIn)) for op in parent.ops)
    if isinstance(parent, ast.Subscript):
        return parent.value is node
    return is_iterated(file, node) or is_call_of(parent, {"len", "reversed"})


def range_faults(file, files, own):
    """A range is iterated on the spot, or kept by a name that only this is done with: it is not passed on."""
    for function in ast.walk(file.tree):
        if not isinstance(function, ast.FunctionDef):
            continue
        kept = set()
        for node in ast.walk(function):
            if is_call_of(node, {"range"}) and not is_used_as_range(file, node):
                parent = file.parents[node]
                if isinstance(parent, ast.Assign) and isinstance(parent.targets[0], ast.Name):
                    kept.add(parent.targets[0].id)
                else:
                    yield "L23", node.lineno, "range that is passed on"
        for name in kept:
            if bound_names(function).count(name) > 1:
                yield "L23", function.lineno, f"{name} keeps a range and is assigned again"
        for node in ast.walk(function):
            if isinstance(node, ast.Name) and isinstance(node.ctx, ast.Load) and node.id in kept:
                if not is_used_as_range(file, node):
                    yield "L23", node.lineno, f"{node.id}, a range that is passed on"


def node_faults(file, files, own):
    docs = set()
    for node in ast.walk(file.tree):
        if isinstance(node, (ast.Module, ast.FunctionDef, ast.ClassDef)) and ast.get_docstring(node) is not None:
            docs.add(node.body[0].value)
    for node in ast.walk(file.tree):
        line = getattr(node, "lineno", 0)
        if isinstance(node, ast.stmt) and not isinstance(node, STATEMENTS):
            yield "L6", line, node.__class__.__name__
        if isinstance(node, (ast.GeneratorExp, ast.Set, ast.SetComp, ast.Lambda, ast.AnnAssign, ast.Await, ast.NamedExpr)):
            yield "L7", line, node.__class__.__name__
        if isinstance(node, ast.FunctionDef):
            if node.end_lineno - node.lineno + 1 > 40:
                yield "L10", line, "function too long"
            if node.returns or any(part.annotation for part in ast.walk(node.args) if isinstance(part, ast.arg)):
                yield "L21", line, "annotation"
            if any(not is_plain(part) for part in [*node.args.defaults, *node.args.kw_defaults] if part is not None):
                yield "L4", line, "default value"
        if isinstance(node, ast.Constant):
            if isinstance(node.value, (float, complex)):
                yield "L7", line, "float"
            if isinstance(node.value, str) and ("%" in node.value or node.value.endswith(("._", ".__"))):
                yield "L27", line, "string"
            if isinstance(node.value, str) and node not in docs and re.search(r"\btype\b|__", node.value):
                yield "L17", line, "string"
        if isinstance(node, ast.BinOp):
            if isinstance(node.op, ast.Div):
                yield "L7", line, "/"
            if isinstance(node.op, ast.Pow) and not isinstance(node.right, ast.Constant):
                yield "L27", line, "**"
        if isinstance(node, ast.AugAssign) and not isinstance(node.value, ast.Constant):
            yield "L5", line, "+= of more than a literal"
        if isinstance(node, ast.Compare):
            for at, op in enumerate(node.ops):
                if isinstance(op, (ast.Is, ast.IsNot)) and not isinstance(node.comparators[at], ast.Constant):
                    yield "L20", line, "is"
        if isinstance(node, ast.Call):
            yield from call_faults(file, node, own)
        if isinstance(node, ast.Attribute):
            if node.attr.startswith("__") and node.attr != "__init__":
                yield "L8", line, node.attr
            if node.attr in ("format", "format_map", "mro", "register", "elements", "law"):
                yield "L17", line, node.attr
        if isinstance(node, ast.Raise):
            named = isinstance(node.exc, ast.Call) and isinstance(node.exc.func, ast.Name)
            if not named:
                yield "L19", line, "raise"


def is_setter(function):
    """Whether this is the setter of the property above it."""
    return any(isinstance(part, ast.Attribute) and part.attr == "setter" for part in function.decorator_list)


def decorator_faults(file, files, own):
    """Decorators stand over methods only, one over each: those of properties, static and class methods."""
    for node in ast.walk(file.tree):
        if isinstance(node, ast.ClassDef) and node.decorator_list:
            yield "L5", node.lineno, "decorator"
        if not isinstance(node, ast.FunctionDef) or not node.decorator_list:
            continue
        part = node.decorator_list[0]
        usual = isinstance(part, ast.Name) and part.id in ("property", "staticmethod", "classmethod")
        above = {other.name for other in file.parents[node].body if isinstance(other, ast.FunctionDef)}
        setter = is_setter(node) and isinstance(part.value, ast.Name) and part.value.id == node.name in above
        in_class = isinstance(file.parents[node], ast.ClassDef)
        if len(node.decorator_list) > 1 or not in_class or not (usual or setter):
            yield "L4", node.lineno, "decorator"


def is_simple(node):
    """What `__exit__` may assign: a local name, an attribute, a literal without a sign."""
    while isinstance(node, ast.Attribute):
        node = node.value
    return isinstance(node, (ast.Name, ast.Constant))


def exit_faults(file, files, own):
    """The rows of `__exit__` assign simple things to attributes, and nothing else."""
    for node in ast.walk(file.tree):
        if isinstance(node, ast.FunctionDef) and node.name == "__exit__":
            for row in node.body:
                doc = isinstance(row, ast.Expr) and isinstance(row.value, ast.Constant)
                fine = isinstance(row, ast.Assign) and len(row.targets) == 1 and is_simple(row.value)
                if not doc and not isinstance(row, ast.Pass) and not (fine and isinstance(row.targets[0], ast.Attribute)):
                    yield "L6", row.lineno, "row of __exit__"


def generators_of(files):
    """The names of all functions and methods with a yield."""
    names = set()
    for file in files:
        for node in ast.walk(file.tree):
            if isinstance(node, ast.FunctionDef):
                if any(isinstance(part, (ast.Yield, ast.YieldFrom)) for part in ast.walk(node)):
                    names.add(node.name)
    return names


def generator_faults(file, files, own):
    """The call of a generator is iterated at once; its name is no other function's and no builtin method's."""
    names = generators_of(files)
    for name in names:
        if sum(name in [part.name for part in ast.walk(other.tree) if isinstance(part, ast.FunctionDef)] for other in files) > 1:
            yield "L23", 0, name
        if name in METHODS:
            yield "L23", 0, name
    for node in ast.walk(file.tree):
        if isinstance(node, ast.Call):
            called = node.func.id if isinstance(node.func, ast.Name) else getattr(node.func, "attr", None)
            if called in names:
                parent = file.parents[node]
                looped = isinstance(parent, (ast.For, ast.comprehension)) and parent.iter is node
                if not looped and not isinstance(parent, ast.YieldFrom) and not is_call_of(parent, TAKERS):
                    yield "L23", node.lineno, f"{called} is not iterated at once"


def stored_attributes(files):
    """The names of all attributes that the package assigns."""
    nodes = [node for file in files for node in ast.walk(file.tree) if isinstance(node, ast.Attribute)]
    return {node.attr for node in nodes if isinstance(node.ctx, ast.Store)}


def shared_name_faults(file, files, own):
    """No name is a method here and an attribute there: L18 lets some such names, none of which is needed.

    A property may be assigned: its own setter stands below it.
    """
    stored = stored_attributes(files)
    for node in ast.walk(file.tree):
        if isinstance(node, ast.ClassDef):
            setters = {part.name for part in node.body if isinstance(part, ast.FunctionDef) and is_setter(part)}
            for part in node.body:
                if isinstance(part, ast.FunctionDef) and part.name in stored - setters:
                    yield "L18", part.lineno, f"{part.name} is a method here and an attribute elsewhere"


def class_faults(file, files, own):
    """Methods and attributes of each class, with those of its bases and subclasses."""
    classes = {name: node for other in files for name, node in other.defined.items() if isinstance(node, ast.ClassDef)}
    for name, node in file.defined.items():
        if not isinstance(node, ast.ClassDef):
            continue
        methods = [part.name for part in node.body if isinstance(part, ast.FunctionDef) and not is_setter(part)]
        attributes = set()
        family = [name]
        for other in family:
            family.extend(base.id for base in classes[other].bases if base.id in classes and base.id not in family)
        for other in family:
            for part in ast.walk(classes[other]):
                if isinstance(part, ast.Attribute) and isinstance(part.ctx, ast.Store):
                    if isinstance(part.value, ast.Name) and part.value.id == "self":
                        attributes.add(part.attr)
        for method in methods:
            if method.startswith("__") and method[2:-2] not in DUNDERS:
                yield "L5", node.lineno, method
            if method in attributes:
                yield "L18", node.lineno, f"{name}.{method} is a method and an attribute"
            if not method.startswith("__") and method in BUILTIN_ATTRIBUTES - FREE_METHOD_NAMES:
                yield "L26", node.lineno, method
            if methods.count(method) > 1:
                yield "L18", node.lineno, f"{name}.{method} twice"
        for attribute in attributes & BUILTIN_ATTRIBUTES - set("count index title find get join lower upper split strip copy".split()):
            yield "L26", node.lineno, attribute
        if "__getitem__" in methods and "__iter__" not in methods:
            yield "L5", node.lineno, "no __iter__"


CHECKS = (
    text_faults, import_faults, top_faults, name_faults, node_faults, range_faults, decorator_faults, exit_faults,
    generator_faults, class_faults, shared_name_faults,
)

if __name__ == "__main__":
    for fault in faults(Path(__file__).resolve().parent.parent / "duehouse"):
        print(*fault)
