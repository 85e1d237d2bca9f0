"""The package keeps to LANGUAGE.md: most of its rules, by their numbers; L19 and L28 are held more narrowly here."""

import ast
import builtins
import os
import re
import unittest

ROOT = os.path.dirname(os.path.dirname(os.path.abspath(__file__)))
PACKAGE = os.path.join(ROOT, "logloom")

ERRORS = (
    "Exception ValueError TypeError KeyError IndexError LookupError ZeroDivisionError ArithmeticError "
    "OverflowError RuntimeError NotImplementedError AttributeError StopIteration"
).split()
OWN_NAMES = (
    "len range enumerate zip min max sum abs sorted reversed int str bool list tuple dict set frozenset "
    "isinstance ord repr any all divmod"
).split() + ERRORS
METHODS = (
    "append clear copy count endswith extend find get index insert isalnum isalpha isdigit islower isspace "
    "isupper items join keys ljust lower lstrip partition pop remove replace reverse rfind rjust rpartition "
    "rsplit rstrip setdefault split splitlines startswith strip update upper values zfill bit_length"
).split()
DUNDERS = "__init__ __eq__ __repr__ __str__ __len__".split()
NEVER = "register mro elements open input version_info with_traceback add_note format format_map".split()
NOT_AS_NAMES = (
    "attrgetter breakpoint builtins compile copyright credits delattr dir eval exec exit gc getattr globals "
    "hasattr help id importlib license locals methodcaller os quit setattr super type vars sys chr print"
).split()
NO_WORDS = re.compile(
    r"\b(type|typing|typing_extensions|enum|Enum|IntEnum|StrEnum|Flag|IntFlag|Generic|Protocol|ABC|ABCMeta|"
    r"namedtuple|NamedTuple|TypedDict|TYPE_CHECKING|abstractmethod)\b|dataclass|overload|contextmanager"
)
NO_VALUES = (
    "items keys values pop update append clear extend insert remove reverse setdefault sort args encode format"
).split()
CHANGES = "append clear extend insert pop remove reverse setdefault update".split()
FREE_METHODS = ["add", "discard"] + METHODS
FREE_VALUES = "count index title find get join lower upper split strip copy add".split()
PYTHONS_OWN = sorted({name for kind in (str, int, list, dict, set, bytes, tuple) for name in dir(kind)})
KEYWORDS = {
    "sorted": ("key", "reverse"), "min": ("key", "default"), "max": ("key", "default"), "sum": ("start",),
    "enumerate": ("start",), "zip": ("strict",),
}
KEYS = "len int str abs sum min max tuple".split()
WALKED = "zip enumerate reversed range".split()
WALKERS = "list tuple dict sorted sum any all enumerate zip min max".split()
STATEMENTS = (
    ast.Assign, ast.AugAssign, ast.If, ast.While, ast.For, ast.Return, ast.Break, ast.Continue, ast.Pass,
    ast.Raise, ast.Try, ast.Expr, ast.FunctionDef, ast.ClassDef, ast.ImportFrom,
)
EXPRESSIONS = (
    ast.Constant, ast.List, ast.Tuple, ast.Dict, ast.Set, ast.BinOp, ast.UnaryOp, ast.BoolOp, ast.Compare,
    ast.IfExp, ast.Call, ast.Attribute, ast.Subscript, ast.Slice, ast.ListComp, ast.JoinedStr, ast.FormattedValue,
    ast.Name, ast.Lambda,
)
NO_OPERATORS = (ast.Div, ast.MatMult)


def plain_value(node):
    if isinstance(node, ast.UnaryOp):
        return isinstance(node.op, ast.USub) and plain_value(node.operand)
    if isinstance(node, (ast.List, ast.Tuple)):
        return all(plain_value(part) for part in node.elts)
    if isinstance(node, ast.Dict):
        return all(key is not None and plain_value(key) for key in node.keys) and all(map(plain_value, node.values))
    return isinstance(node, (ast.Constant, ast.Name))


def is_text(node):
    return isinstance(node, ast.Expr) and isinstance(node.value, ast.Constant) and isinstance(node.value.value, str)


def called(node):
    return node.func.id if isinstance(node, ast.Call) and isinstance(node.func, ast.Name) else None


def walked_in(node):
    """What a loop walks, itself or through enumerate, zip, reversed or items."""
    if called(node) in ("enumerate", "zip", "reversed"):
        return [part for given in node.args for part in walked_in(given)]
    if isinstance(node, ast.Call) and isinstance(node.func, ast.Attribute) and node.func.attr in ("items", "keys", "values"):
        return [node.func.value]
    return [node]


def changed_by(node):
    """What is changed here by an index or by a method, as it is written; None where nothing is."""
    if isinstance(node, ast.Subscript) and isinstance(node.ctx, ast.Store):
        return ast.unparse(node.value)
    if isinstance(node, ast.Call) and isinstance(node.func, ast.Attribute) and node.func.attr in CHANGES:
        return ast.unparse(node.func.value)
    return None


def top_names(tree):
    names = [node.name for node in tree.body if isinstance(node, (ast.FunctionDef, ast.ClassDef))]
    for node in tree.body:
        if isinstance(node, ast.Assign):
            names += [target.id for target in node.targets]
    return names


class Check:
    """One file held against the rules; what is wrong stands in faults, by rule and line."""

    def __init__(self, source, files):
        self.source = source
        self.files = files
        self.tree = ast.parse(source)
        self.faults = []
        self.parents = {}
        for node in ast.walk(self.tree):
            for child in ast.iter_child_nodes(node):
                self.parents[child] = node
        self.lines()
        self.top()
        for node in ast.walk(self.tree):
            self.look(node)

    def fault(self, rule, node):
        self.faults.append((rule, getattr(node, "lineno", 0)))

    def lines(self):
        rows = self.source.split("\n")
        if len(rows) > 401:
            self.faults.append(("L10", 0))
        for number, row in enumerate(rows, start=1):
            if len(row) > 120:
                self.faults.append(("L10", number))
            if any(not " " <= sign <= "~" for sign in row):
                self.faults.append(("L14", number))
            if NO_WORDS.search(row):
                self.faults.append(("L17", number))

    def top(self):
        names = top_names(self.tree)
        for place, node in enumerate(self.tree.body):
            if is_text(node) and place == 0:
                continue
            if isinstance(node, ast.ImportFrom):
                names += [alias.name for alias in node.names]
            elif isinstance(node, ast.Assign):
                if not plain_value(node.value):
                    self.fault("L3", node)
            elif not isinstance(node, (ast.FunctionDef, ast.ClassDef)):
                self.fault("L3", node)
        if len(set(names)) != len(names):
            self.faults.append(("L15", 0))

    def look_import(self, node):
        self.fault("L2", node)

    def look_importfrom(self, node):
        if node.level or not (node.module or "").startswith("logloom."):
            return self.fault("L2", node)
        tree = self.files.get(node.module.split(".", 1)[1])
        for alias in node.names:
            if alias.asname or tree is None or alias.name not in top_names(tree):
                self.fault("L16", node)

    def look(self, node):
        if isinstance(node, ast.stmt) and not isinstance(node, STATEMENTS):
            self.fault("L6", node)
        if isinstance(node, ast.expr) and not isinstance(node, EXPRESSIONS):
            self.fault("L7", node)
        if isinstance(node, ast.operator) and isinstance(node, NO_OPERATORS):
            self.faults.append(("L7", 0))
        watcher = getattr(self, "look_" + node.__class__.__name__.lower(), None)
        if watcher is not None:
            watcher(node)

    def look_expr(self, node):
        documents = is_text(node) and self.tree.body[0] is node
        if not documents and not isinstance(node.value, ast.Call):
            self.fault("L6", node)

    def look_assign(self, node):
        if len(node.targets) != 1:
            self.fault("L6", node)

    def look_while(self, node):
        if node.orelse:
            self.fault("L6", node)

    def look_for(self, node):
        self.look_while(node)
        walked = [ast.unparse(part) for part in walked_in(node.iter)]
        for part in [inner for row in node.body for inner in ast.walk(row)]:
            if changed_by(part) in walked:
                self.fault("L23", part)

    def look_try(self, node):
        if node.finalbody:
            self.fault("L6", node)
        for handler in node.handlers:
            # Narrower than the rule: of Python's own errors none is taken.
            if not isinstance(handler.type, ast.Name) or handler.type.id in ERRORS:
                self.fault("L19", handler)

    def look_raise(self, node):
        if not isinstance(node.exc, ast.Call) or not isinstance(node.exc.func, ast.Name):
            self.fault("L19", node)

    def look_functiondef(self, node):
        held = node.args
        if node.decorator_list or held.vararg or held.kwarg or held.kwonlyargs or held.posonlyargs:
            self.fault("L4", node)
        if not all(plain_value(default) for default in held.defaults):
            self.fault("L4", node)
        if node.end_lineno - node.lineno + 1 > 40:
            self.fault("L10", node)
        self.plain_name(node.name, node, method=isinstance(self.parents[node], ast.ClassDef))

    def look_classdef(self, node):
        if node.decorator_list or node.keywords or len(node.bases) > 1:
            self.fault("L5", node)
        if not isinstance(self.parents[node], ast.Module):
            self.fault("L15", node)
        if not all(isinstance(part, (ast.FunctionDef, ast.Pass)) for part in node.body):
            self.fault("L5", node)
        methods = [part.name for part in node.body if isinstance(part, ast.FunctionDef)]
        if len(set(methods)) != len(methods):
            self.fault("L18", node)
        for part in [part for part in node.body if isinstance(part, ast.FunctionDef)]:
            self.method(part)

    def method(self, node):
        if node.name == "__init__":
            if any(isinstance(part, ast.Return) for part in ast.walk(node)):
                self.fault("L28", node)
        elif node.name in DUNDERS:
            # Narrower than the rule: best, they are not written.
            self.fault("L28", node)
        elif node.name in PYTHONS_OWN and node.name not in FREE_METHODS:
            self.fault("L26", node)

    def plain_name(self, name, node, method=False):
        if name in NEVER or (not method and name in NOT_AS_NAMES):
            self.fault("L17", node)
        if name.startswith("_") and not (method and name in DUNDERS):
            self.fault("L12", node)

    def look_arg(self, node):
        self.local(node.arg, node)
        if node.annotation is not None:
            self.fault("L21", node)

    def local(self, name, node):
        self.plain_name(name, node)
        kept = [part.name for part in self.tree.body if isinstance(part, ast.ClassDef)]
        for part in self.tree.body:
            if isinstance(part, ast.ImportFrom):
                kept += [alias.name for alias in part.names]
        if name in kept or hasattr(builtins, name):
            self.fault("L15", node)

    def kept_as_value(self, node):
        above = self.parents[node]
        if isinstance(above, ast.keyword):
            return not (above.arg == "key" and node.id in KEYS)
        return not (isinstance(above, ast.Call) and above.func is node)

    def look_name(self, node):
        if node.id in OWN_NAMES and node.id not in ERRORS and self.kept_as_value(node):
            if not (called(self.parents[node]) == "isinstance" or isinstance(self.parents[node], ast.Tuple)):
                self.fault("L22", node)
        if isinstance(node.ctx, ast.Load):
            self.plain_name(node.id, node)
            if hasattr(builtins, node.id) and node.id not in OWN_NAMES:
                self.fault("L8", node)
        else:
            self.local(node.id, node)

    def look_attribute(self, node):
        self.plain_name(node.attr, node, method=True)
        own = node.attr in PYTHONS_OWN and node.attr not in FREE_VALUES
        if isinstance(node.ctx, ast.Store) and (node.attr in NO_VALUES or own):
            self.fault("L26", node)

    def look_call(self, node):
        own = self.files["methods"]
        if isinstance(node.func, ast.Attribute) and node.func.attr not in METHODS + own + ["__init__"]:
            self.fault("L25", node)
        if any(isinstance(part, ast.Starred) for part in node.args):
            self.fault("L7", node)
        if called(node) in WALKED and not self.walked(node):
            self.fault("L23", node)
        if called(node) == "set" and not self.set_asked(node):
            self.fault("L24", node)
        self.keywords(node)
        if called(node) == "isinstance" and not isinstance(node.args[1], (ast.Name, ast.Tuple)):
            self.fault("L22", node)

    def keywords(self, node):
        own = called(node)
        for keyword in node.keywords:
            if hasattr(builtins, own or "") and keyword.arg not in KEYWORDS.get(own, ()):
                self.fault("L22", node)
            if isinstance(node.func, ast.Attribute) and node.func.attr in METHODS:
                self.fault("L22", node)

    def walked(self, node):
        above = self.parents[node]
        if isinstance(above, (ast.For, ast.comprehension)):
            return above.iter is node
        if called(above) in WALKERS:
            return True
        return isinstance(above, ast.Call) and getattr(above.func, "attr", None) == "join"

    def set_asked(self, node):
        above = self.parents[node]
        while isinstance(above, ast.BinOp):
            above = self.parents[above]
        return isinstance(above, ast.Compare) or called(above) in ("sorted", "len")

    def look_compare(self, node):
        for mark, other in zip(node.ops, node.comparators):
            if isinstance(mark, (ast.Is, ast.IsNot)) and not (
                    isinstance(other, ast.Constant) and (other.value is None or isinstance(other.value, bool))):
                self.fault("L20", node)

    def look_comprehension(self, node):
        if len(node.ifs) > 1 or len(self.parents[node].generators) > 1:
            self.fault("L7", self.parents[node])

    def look_constant(self, node):
        if isinstance(node.value, (float, bytes, complex)):
            self.fault("L7", node)
        if isinstance(node.value, str) and "%" in node.value:
            self.fault("L27", node)

    def look_formattedvalue(self, node):
        if not isinstance(node.value, ast.Name) or node.format_spec is not None:
            self.fault("L7", node)

    def look_binop(self, node):
        if isinstance(node.op, ast.Pow) and not isinstance(node.right, ast.Constant):
            self.fault("L27", node)


def package_sources():
    sources = {}
    for name in sorted(os.listdir(PACKAGE)):
        if name != "__pycache__":
            with open(os.path.join(PACKAGE, name), encoding="utf-8") as held:
                sources[name] = held.read()
    return sources


def knowledge(sources):
    files = {name[:-3]: ast.parse(source) for name, source in sources.items()}
    methods = []
    for tree in list(files.values()):
        for node in ast.walk(tree):
            if isinstance(node, ast.ClassDef):
                methods += [part.name for part in node.body if isinstance(part, ast.FunctionDef)]
    files["methods"] = methods
    return files


def drawn_from(tree):
    return [node.module.split(".", 1)[1] for node in tree.body if isinstance(node, ast.ImportFrom)]


def faults_in(source):
    return [rule for rule, line in Check(source, knowledge({"this.py": source})).faults]


class Language(unittest.TestCase):
    def setUp(self):
        self.sources = package_sources()
        self.files = knowledge(self.sources)

    def test_file_names(self):
        self.assertIn("__init__.py", self.sources)
        for name in self.sources:
            self.assertRegex(name, r"\A(__init__|__main__|[a-z][a-z0-9_]*)\.py\Z")
            self.assertFalse(hasattr(builtins, name[:-3]) and name != "__init__.py", name)

    def test_each_file_keeps_to_the_rules(self):
        for name, source in self.sources.items():
            self.assertEqual(Check(source, self.files).faults, [], name)

    def test_no_two_files_draw_from_one_another(self):
        left = {name: drawn_from(tree) for name, tree in self.files.items() if name != "methods"}
        self.assertEqual(left["__init__"], [])
        while left:
            free = [name for name in left if not any(other in left for other in left[name])]
            self.assertNotEqual(free, [], left)
            for name in free:
                del left[name]

    def test_no_name_is_a_method_and_a_value(self):
        values = []
        for name, tree in self.files.items():
            if name != "methods":
                values += [n.attr for n in ast.walk(tree) if isinstance(n, ast.Attribute) and isinstance(n.ctx, ast.Store)]
        self.assertEqual(sorted(set(values) & set(self.files["methods"])), [])


class TheCheckItself(unittest.TestCase):
    def test_what_breaks_a_rule_is_seen(self):
        for rule, source in (
                ("L2", "import re"), ("L2", "from .rows import words_of"), ("L3", "x = len('a')"),
                ("L4", "def f(*xs):\n    return xs"), ("L5", "class A:\n    x = 1"), ("L6", "def f():\n    del x"),
                ("L6", "def f():\n    a = b = 1"), ("L6", "def f():\n    'says what'"), ("L7", "def f(x):\n    return x / 2"),
                ("L7", "def f(x):\n    return [a for b in x for a in b]"), ("L7", "def f(x):\n    return sum(a for a in x)"),
                ("L8", "def f(x):\n    return hash(x)"), ("L10", "x = 1  # " + "-" * 120), ("L12", "def _f():\n    pass"),
                ("L14", "x = '\u00e4'"), ("L15", "x = 1\nx = 2"), ("L15", "def f(hash):\n    return 1"), ("L17", "# its type"),
                ("L20", "def f(x):\n    return x is 1"), ("L23", "def f(x):\n    y = zip(x, x)"), ("L24", "def f(x):\n    y = set(x)"),
                ("L25", "def f(x):\n    return x.title()"), ("L27", "x = '%'"), ("L19", "def f():\n    raise e"),
                ("L19", "def f(x):\n    try:\n        return int(x)\n    except ValueError:\n        return 0"),
                ("L22", "def f(x):\n    return int(x, base=2)"), ("L22", "def f(x):\n    y = len"),
                ("L22", "def f(x):\n    return x.split(sep='a')"), ("L22", "def f(x):\n    return sorted(x, key=list)"),
                ("L23", "def f(x):\n    for y in x:\n        x.append(y)"),
                ("L23", "def f(x):\n    for n, y in enumerate(x):\n        if y:\n            x[n] = 1"),
                ("L23", "def f(x):\n    for n, y in x.items():\n        x.pop(n)"),
                ("L26", "class A:\n    def title(self):\n        return 1"),
                ("L26", "def f(x):\n    x.real = 1"), ("L26", "def f(x):\n    x.keys = 1"),
                ("L28", "class A:\n    def __init__(self):\n        return None"),
                ("L28", "class A:\n    def __len__(self):\n        return 1")):
            self.assertIn(rule, faults_in(source), source)


if __name__ == "__main__":
    unittest.main()
