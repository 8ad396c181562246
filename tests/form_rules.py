"""Holds the package's files against ../shared/LANGUAGE.md, as far as it can be seen in the text.

faults_of(sources) takes a dict from file names to texts, and tells a list of tuples (rule, file, row).
"""

import ast
import builtins
import re

CALLS = set("""len range enumerate zip min max sum abs sorted reversed int str bool list tuple dict set frozenset
isinstance ord repr any all divmod""".split())
ERRORS = set("""Exception ValueError TypeError KeyError IndexError LookupError ZeroDivisionError ArithmeticError
OverflowError RuntimeError NotImplementedError AttributeError StopIteration""".split())
METHODS = set("""append clear copy count endswith extend find get index insert isalnum isalpha isdigit islower isspace
isupper items join keys ljust lower lstrip partition pop remove replace reverse rfind rjust rpartition rsplit rstrip
setdefault split splitlines startswith strip update upper values zfill bit_length""".split())
CHANGES = set("append clear extend insert pop remove reverse setdefault update".split())
UNDERSCORED = {"__init__", "__eq__", "__repr__", "__str__", "__len__"}
PYTHONS_OWN = set().union(*(dir(kind) for kind in (str, int, list, dict, set, bytes, tuple)))
OWN_METHODS = METHODS | {"add", "discard"}
OWN_VALUES = set("count index title find get join lower upper split strip copy add".split())
NEVER = set("""register mro elements open input version_info with_traceback add_note f_back f_code f_globals f_locals
tb_next tb_frame co_names co_code""".split())
NO_NAMES = set("""attrgetter breakpoint builtins compile copyright credits delattr dir eval exec exit gc getattr globals
hasattr help id importlib license locals methodcaller os quit setattr super type vars sys __name__""".split())
NO_WORDS = set("""type typing typing_extensions enum Enum IntEnum StrEnum Flag IntFlag Generic Protocol ABC ABCMeta
namedtuple NamedTuple TypedDict TYPE_CHECKING abstractmethod""".split())
NO_FILES = NO_WORDS | set(dir(builtins)) | {"test", "tests", "testing", "site", "conftest", "sitecustomize",
                                            "usercustomize"}
KEYS = CALLS & {"len", "int", "str", "abs", "sum", "min", "max", "tuple"}
KEYWORDS = {"sorted": {"key", "reverse"}, "min": {"key", "default"}, "max": {"key", "default"}, "sum": {"start"},
            "enumerate": {"start"}, "zip": {"strict"}}
WALKED = {"zip", "enumerate", "reversed", "range"}
WALKERS = {"list", "tuple", "dict", "sorted", "sum", "any", "all", "enumerate", "zip"}
STATEMENTS = (ast.Assign, ast.AugAssign, ast.If, ast.While, ast.For, ast.Return, ast.Break, ast.Continue, ast.Pass,
              ast.Raise, ast.Try, ast.Expr, ast.FunctionDef)
EXPRESSIONS = (ast.Constant, ast.List, ast.Tuple, ast.Dict, ast.Set, ast.BinOp, ast.UnaryOp, ast.BoolOp, ast.Compare,
               ast.IfExp, ast.Call, ast.Attribute, ast.Subscript, ast.Slice, ast.ListComp, ast.JoinedStr,
               ast.FormattedValue, ast.Lambda, ast.Name)
NAME = re.compile(r"[A-Za-z][A-Za-z0-9_]*\Z")


class File:
    def __init__(self, name, text, package):
        self.name, self.text, self.package = name, text, package
        self.tree = ast.parse(text)
        self.faults = []
        self.above = {}
        for node in ast.walk(self.tree):
            for child in ast.iter_child_nodes(node):
                self.above[child] = node
        self.nodes = list(ast.walk(self.tree))
        self.classes = [node.name for node in self.tree.body if isinstance(node, ast.ClassDef)]
        self.imports = [(node, alias) for node in self.nodes if isinstance(node, ast.ImportFrom)
                        for alias in node.names]
        self.tops = [name for node in self.tree.body for name in bound_at(node)]

    def fault(self, rule, node):
        self.faults.append((rule, self.name, node if isinstance(node, int) else getattr(node, "lineno", 1)))

    def of(self, *kinds):
        return [node for node in self.nodes if isinstance(node, kinds)]


def bound_at(node):
    if isinstance(node, (ast.FunctionDef, ast.ClassDef)):
        return [node.name]
    if isinstance(node, ast.ImportFrom):
        return [alias.asname or alias.name for alias in node.names]
    if isinstance(node, ast.Assign):
        return [target.id for target in node.targets if isinstance(target, ast.Name)]
    return []


def is_docstring(node):
    return isinstance(node, ast.Expr) and isinstance(node.value, ast.Constant) and isinstance(node.value.value, str)


def is_plain(node):
    if isinstance(node, ast.UnaryOp):
        return isinstance(node.op, ast.USub) and is_plain(node.operand)
    if isinstance(node, (ast.List, ast.Tuple)):
        return all(is_plain(part) for part in node.elts)
    if isinstance(node, ast.Dict):
        return all(part is not None and is_plain(part) for part in node.keys + node.values)
    return isinstance(node, (ast.Constant, ast.Name))


def signs_and_sizes(file):
    rows = file.text.split("\n")
    if len(rows) - 1 > 400:
        file.fault("L10", 401)
    for number, row in enumerate(rows, start=1):
        if len(row) > 120 or "\t" in row:
            file.fault("L10", number)
        if re.search(r"[^ -~]", row):
            file.fault("L14", number)
        if NO_WORDS & set(re.findall(r"\w+", row)) or re.search("dataclass|overload|contextmanager", row):
            file.fault("L17", number)
    for node in file.of(ast.FunctionDef):
        if node.end_lineno - node.lineno + 1 > 40:
            file.fault("L10", node)
    stem = file.name[:-3]
    if not re.match(r"[a-z][a-z0-9_]*\.py\Z", file.name) and file.name not in ("__init__.py", "__main__.py"):
        file.fault("L14", 1)
    if stem in NO_FILES or stem.startswith("test_"):
        file.fault("L14", 1)


def tops(file):
    for place, node in enumerate(file.tree.body):
        if isinstance(node, ast.Assign):
            held = node.value.elts if isinstance(node.value, (ast.List, ast.Tuple)) else []
            if not is_plain(node.value):
                file.fault("L3", node)
            if any(isinstance(part, (ast.List, ast.Dict)) for part in held):
                file.fault("L15", node)
        elif not (place == 0 and is_docstring(node)) and not isinstance(
                node, (ast.ImportFrom, ast.FunctionDef, ast.ClassDef)):
            file.fault("L3", node)
    for name in {name for name in file.tops if file.tops.count(name) > 1}:
        file.fault("L15", file.tree.body[-1])
    if file.of(ast.Import):
        file.fault("L16", file.of(ast.Import)[0])
    for node, alias in file.imports:
        source = (node.module or "").replace(file.package + ".", "") + ".py"
        if node.level or alias.name == "*" or not (node.module or "").startswith(file.package + "."):
            file.fault("L2", node)
        elif file.known and alias.name not in file.known.get(source, []):
            file.fault("L16", node)


def functions(file):
    for node in file.of(ast.FunctionDef, ast.Lambda):
        given = node.args
        if given.vararg or given.kwarg or given.kwonlyargs or given.posonlyargs:
            file.fault("L4", node)
        if not all(is_plain(value) for value in given.defaults):
            file.fault("L4", node)
        if isinstance(node, ast.FunctionDef):
            if node.decorator_list:
                file.fault("L4", node)
            if node.returns or any(argument.annotation for argument in given.args):
                file.fault("L21", node)
    for node in file.of(ast.ClassDef):
        if len(node.bases) > 1 or node.decorator_list or node.keywords:
            file.fault("L5", node)
        if file.above[node] is not file.tree:
            file.fault("L15", node)
        methods = [part.name for part in node.body if isinstance(part, ast.FunctionDef)]
        if len(set(methods)) < len(methods):
            file.fault("L18", node)
        for part in node.body:
            if not isinstance(part, (ast.FunctionDef, ast.Pass)):
                file.fault("L5", part)
        for name in methods:
            if name.startswith("__") and name not in UNDERSCORED:
                file.fault("L5", node)
            if name in PYTHONS_OWN - OWN_METHODS - UNDERSCORED:
                file.fault("L26", node)
    for node in file.of(ast.FunctionDef):
        if node.name == "__init__" and any(isinstance(part, ast.Return) and part.value for part in ast.walk(node)):
            file.fault("L28", node)


def statements(file):
    inner = [node for node in file.of(ast.stmt) if file.above[node] is not file.tree]
    for node in inner:
        if not isinstance(node, STATEMENTS) or (isinstance(node, ast.Expr) and not isinstance(node.value, ast.Call)):
            file.fault("L6", node)
        if isinstance(node, (ast.For, ast.While)) and node.orelse:
            file.fault("L6", node)
        if isinstance(node, ast.Assign) and len(node.targets) != 1:
            file.fault("L6", node)
        if isinstance(node, ast.Try):
            errors_taken(file, node)
        if isinstance(node, ast.Raise) and not isinstance(node.exc, ast.Call):
            file.fault("L19", node)


def errors_taken(file, node):
    if node.finalbody:
        file.fault("L6", node)
    for handler in node.handlers:
        if handler.type is None:
            file.fault("L6", handler)
            continue
        held = handler.type.elts if isinstance(handler.type, ast.Tuple) else [handler.type]
        for name in [part.id for part in held if isinstance(part, ast.Name)]:
            if name in ERRORS - {"KeyError", "ZeroDivisionError", "StopIteration", "ValueError", "LookupError",
                                 "IndexError"}:
                file.fault("L19", handler)


def expressions(file):
    for node in file.of(ast.expr):
        if not isinstance(node, EXPRESSIONS):
            file.fault("L7", node)
        if isinstance(node, ast.Set):
            file.fault("L24", node)
        if isinstance(node, ast.Constant) and isinstance(node.value, (float, complex, bytes)):
            file.fault("L7", node)
        if isinstance(node, ast.Constant) and isinstance(node.value, str) and "%" in node.value:
            file.fault("L27", node)
        if isinstance(node, ast.BinOp) and isinstance(node.op, (ast.Div, ast.MatMult)):
            file.fault("L7", node)
        if isinstance(node, ast.BinOp) and isinstance(node.op, ast.Pow) and not isinstance(node.right, ast.Constant):
            file.fault("L27", node)
        if isinstance(node, ast.ListComp) and (len(node.generators) > 1 or len(node.generators[0].ifs) > 1):
            file.fault("L7", node)
        if isinstance(node, ast.FormattedValue) and not isinstance(node.value, ast.Name):
            file.fault("L7", node)
        if isinstance(node, ast.Compare) and any(isinstance(op, (ast.Is, ast.IsNot)) for op in node.ops):
            right = node.comparators[-1]
            if not (isinstance(right, ast.Constant) and (right.value is None or isinstance(right.value, bool))):
                file.fault("L20", node)


def names(file):
    outer = set(file.classes) | {alias.asname or alias.name for node, alias in file.imports}
    bound = [(node.arg, node) for node in file.of(ast.arg)]
    bound += [(node.name, node) for node in file.of(ast.FunctionDef, ast.ClassDef)]
    bound += [(node.id, node) for node in file.of(ast.Name) if isinstance(node.ctx, ast.Store)]
    for name, node in bound:
        is_method = isinstance(node, ast.FunctionDef) and isinstance(file.above[node], ast.ClassDef)
        if not NAME.match(name) and name not in UNDERSCORED | {"__all__", "__version__"}:
            file.fault("L12", node)
        if not is_method and hasattr(builtins, name):
            file.fault("L15", node)
        if not isinstance(node, (ast.FunctionDef, ast.ClassDef)) and name in outer:
            file.fault("L15", node)
        if name in NEVER or name in NO_NAMES:
            file.fault("L17", node)
    for node in file.of(ast.Name):
        if hasattr(builtins, node.id) and node.id not in CALLS | ERRORS:
            file.fault("L8", node)
        if node.id in NEVER or node.id in NO_NAMES:
            file.fault("L17", node)
        if node.id in CALLS:
            pythons_own(file, node)


def pythons_own(file, node):
    above = file.above[node]
    if isinstance(above, ast.keyword):
        if above.arg != "key" or node.id not in KEYS:
            file.fault("L22", node)
    elif isinstance(above, ast.Tuple):
        above = file.above[above]
        if not (isinstance(above, ast.Call) and getattr(above.func, "id", "") == "isinstance"):
            file.fault("L22", node)
    elif not isinstance(above, ast.Call):
        file.fault("L22", node)
    elif above.func is not node and getattr(above.func, "id", "") != "isinstance":
        file.fault("L22", node)


def is_walked(file, node):
    above = file.above[node]
    if isinstance(above, (ast.For, ast.comprehension)):
        return above.iter is node
    if isinstance(above, ast.Call) and isinstance(above.func, ast.Name):
        if above.func.id in ("min", "max"):
            return len(above.args) == 1
        if above.func.id == "zip":
            return True
        return above.func.id in WALKERS and above.args[0] is node
    return (isinstance(above, ast.Call) and isinstance(above.func, ast.Attribute) and above.func.attr == "join"
            and isinstance(above.func.value, ast.Constant))


def is_set_place(file, node):
    above = file.above[node]
    while isinstance(above, ast.BinOp):
        node, above = above, file.above[above]
    if isinstance(above, ast.Compare):
        return all(isinstance(op, (ast.In, ast.NotIn, ast.Eq, ast.NotEq)) for op in above.ops)
    return isinstance(above, ast.Call) and getattr(above.func, "id", "") in ("sorted", "len") and not above.keywords


def calls(file):
    for node in file.of(ast.Call):
        if isinstance(node.func, ast.Name):
            name = node.func.id
            if name in CALLS and {keyword.arg for keyword in node.keywords} - KEYWORDS.get(name, set()):
                file.fault("L22", node)
            if name in WALKED and not is_walked(file, node):
                file.fault("L23", node)
            if name in ("set", "frozenset") and not is_set_place(file, node):
                file.fault("L24", node)
        elif isinstance(node.func, ast.Attribute):
            name = node.func.attr
            if name in ("items", "keys", "values") and not is_walked(file, node):
                file.fault("L23", node)
            if name not in METHODS | file.methods | UNDERSCORED:
                file.fault("L25", node)


def attributes(file):
    for node in file.of(ast.Attribute):
        above = file.above[node]
        called = isinstance(above, ast.Call) and above.func is node
        if node.attr in NEVER | {"format", "format_map"}:
            file.fault("L17", node)
        if not NAME.match(node.attr) and node.attr != "__init__":
            file.fault("L12", node)
        if not called and not isinstance(above, ast.keyword):
            if node.attr in METHODS - OWN_VALUES or node.attr in PYTHONS_OWN - OWN_VALUES:
                file.fault("L26", node)
            if node.attr in file.methods:
                file.fault("L18", node)


def walks(file):
    for loop in file.of(ast.For):
        walked = loop.iter
        while isinstance(walked, ast.Call) and walked.args and getattr(walked.func, "id", "") in WALKED - {"range"}:
            walked = walked.args[0]
        if isinstance(walked, ast.Call) and isinstance(walked.func, ast.Attribute):
            walked = walked.func.value
        if not isinstance(walked, (ast.Name, ast.Attribute)):
            continue
        walked = ast.dump(walked).replace("Store()", "Load()")
        for node in [inner for part in loop.body for inner in ast.walk(part)]:
            changed = None
            if isinstance(node, ast.Call) and isinstance(node.func, ast.Attribute) and node.func.attr in CHANGES:
                changed = node.func.value
            if isinstance(node, ast.Subscript) and isinstance(node.ctx, ast.Store):
                changed = node.value
            if changed is not None and ast.dump(changed) == walked:
                file.fault("L23", node)


def class_uses(file):
    for node in file.of(ast.Name):
        if node.id not in file.all_classes or not isinstance(node.ctx, ast.Load):
            continue
        above = file.above[node]
        if isinstance(above, ast.Tuple):
            above = file.above[above]
        fit = isinstance(above, (ast.ClassDef, ast.ExceptHandler))
        fit = fit or (isinstance(above, ast.Attribute) and above.attr == "__init__")
        fit = fit or (isinstance(above, ast.Call) and (above.func is node or getattr(above.func, "id", "") == "isinstance"))
        if not fit:
            file.fault("L18", node)


def draws_in_a_ring(files):
    drawn = {file.name: {node.module.split(".")[-1] + ".py" for node, alias in file.imports if node.module}
             for file in files}
    faults = []
    for name in drawn:
        seen, due = set(), list(drawn[name])
        while due:
            other = due.pop()
            if other not in seen:
                seen.add(other)
                due.extend(drawn.get(other, ()))
        if name in seen:
            faults.append(("L16", name, 1))
    return faults


def faults_of(sources, package="fewrooms"):
    files = [File(name, text, package) for name, text in sorted(sources.items())]
    known = {file.name: [name for node in file.tree.body if not isinstance(node, ast.ImportFrom)
                         for name in bound_at(node)] for file in files}
    classes = {name for file in files for name in file.classes}
    methods = {part.name for file in files for node in file.of(ast.ClassDef)
               for part in node.body if isinstance(part, ast.FunctionDef)}
    found = draws_in_a_ring(files)
    for file in files:
        file.known, file.all_classes, file.methods = known, classes, methods
        for check in (signs_and_sizes, tops, functions, statements, expressions, names, calls, attributes, walks,
                      class_uses):
            check(file)
        found.extend(file.faults)
    return sorted(set(found))
