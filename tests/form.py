"""Looks through the package's files for much of what the rules L1 to L28 of its language rule out.

It takes a dict of file names and texts and tells a list of tuples (rule, file, line, words).
No fault told does not mean that every rule is kept. Not looked for, and left to the reader's eye:
- L4: whether an inner function assigns what it reads from around it;
- L11: how deep a recursion goes, and words of Python's own error messages;
- L15: a list or dict of a file's top that is handed on or given back without a copy;
- L18: a class that is kept in a list or handed on;
- L19: what stands in a try round which ValueError, LookupError or IndexError is taken;
- L21: annotations are told as faults everywhere, which is narrower than the rule;
- L23: a walked thing that is changed under another name;
- L24: beside which comparison a set stands;
- L28: all but what __init__ gives back.
L9 is seen only through the names and imports that L2 and L8 leave.
"""

import ast
import builtins
import io
import re
import tokenize

PACKAGE = "nohalfway"
OWN = set(
    "len range enumerate zip min max sum abs sorted reversed int str bool list tuple dict set frozenset isinstance"
    " ord repr any all divmod".split()
)
ERRORS = set(
    "Exception ValueError TypeError KeyError IndexError LookupError ZeroDivisionError ArithmeticError OverflowError"
    " RuntimeError NotImplementedError AttributeError StopIteration".split()
)
SPECIAL_METHODS = {"__init__", "__eq__", "__repr__", "__str__", "__len__"}
SPECIAL_NAMES = SPECIAL_METHODS | {"__all__", "__version__", "__name__"}
METHODS = set(
    "append clear copy count endswith extend find get index insert isalnum isalpha isdigit islower isspace isupper"
    " items join keys ljust lower lstrip partition pop remove replace reverse rfind rjust rpartition rsplit rstrip"
    " setdefault split splitlines startswith strip update upper values zfill bit_length".split()
)
CHANGING = {"append", "clear", "extend", "insert", "pop", "remove", "reverse", "setdefault", "update"}
FREE_VALUES = set("count index title find get join lower upper split strip copy add".split())
TAKEN = set()
for kind in (str, int, list, dict, set, bytes):
    TAKEN |= {name for name in dir(kind) if not name.startswith("__")}
TAKEN |= {"args", "encode", "format", "sort"}
NO_NAMES_AT_ALL = set(
    "register mro elements open input version_info with_traceback add_note format format_map f_back f_code f_locals"
    " f_globals tb_next tb_frame co_names co_code".split()
)
NO_NAMES = set(
    "attrgetter breakpoint builtins compile copyright credits delattr dir eval exec exit gc getattr globals hasattr"
    " help id importlib license locals methodcaller os quit setattr super type vars chr".split()
)
NO_WORDS = set(
    "type typing typing_extensions enum Enum IntEnum StrEnum Flag IntFlag Generic Protocol ABC ABCMeta namedtuple"
    " NamedTuple TypedDict TYPE_CHECKING abstractmethod".split()
)
NO_PARTS = ("dataclass", "overload", "contextmanager")
NO_FILES = {"test", "tests", "testing", "site", "conftest", "sitecustomize", "usercustomize"} | NO_WORDS
WALKED = {"zip", "enumerate", "reversed", "range"}
WALKERS = {"list", "tuple", "dict", "sorted", "sum", "any", "all", "enumerate", "zip", "min", "max"}
KEYWORDS = {
    "sorted": {"key", "reverse"}, "min": {"key", "default"}, "max": {"key", "default"},
    "sum": {"start"}, "enumerate": {"start"}, "zip": {"strict"},
}
STATEMENTS = (
    ast.Assign, ast.AugAssign, ast.If, ast.While, ast.For, ast.Return, ast.Break, ast.Continue, ast.Pass, ast.Raise,
    ast.Try, ast.Expr, ast.FunctionDef, ast.ClassDef, ast.ImportFrom,
)
EXPRESSIONS = (
    ast.Constant, ast.List, ast.Tuple, ast.Dict, ast.Set, ast.BinOp, ast.UnaryOp, ast.BoolOp, ast.Compare, ast.IfExp,
    ast.Call, ast.Attribute, ast.Subscript, ast.Slice, ast.ListComp, ast.JoinedStr, ast.FormattedValue, ast.Lambda,
    ast.Name,
)


def faults(files):
    """All faults of a package of these files, sorted."""
    found = []
    trees = {}
    for name, text in files.items():
        look_at_name(name, found)
        look_at_signs(name, text, found)
        trees[name] = ast.parse(text)
    own = own_attributes(trees, found)
    for name, tree in trees.items():
        FileLook(name, files[name], tree, trees, own, found).look()
    look_at_circles(trees, found)
    return sorted(set(found))


def look_at_name(name, found):
    stem = name.removesuffix(".py")
    if not name.endswith(".py") or not re.fullmatch(r"[A-Za-z0-9_]+", stem):
        found.append(("L1", name, 0, "no plain .py file"))
    if name in ("__init__.py", "__main__.py"):
        return
    if stem != stem.lower() or stem in NO_FILES or stem.startswith("test_") or hasattr(builtins, stem):
        found.append(("L14", name, 0, "no name for a file"))
    if stem.startswith("_"):
        found.append(("L12", name, 0, "begins with an underscore"))


def look_at_signs(name, text, found):
    lines = text.split("\n")
    if len(text.splitlines()) > 400:
        found.append(("L10", name, 401, "too many lines"))
    for number, line in enumerate(lines, start=1):
        if len(line) > 120 or "\t" in line:
            found.append(("L10", name, number, "too long, or a tab"))
        if any(not " " <= sign <= "~" for sign in line):
            found.append(("L14", name, number, "another sign"))
        for word in re.findall(r"\w+", line):
            if word in NO_WORDS or any(part in word for part in NO_PARTS):
                found.append(("L17", name, number, f"the word {word}"))
    for token in tokenize.generate_tokens(io.StringIO(text).readline):
        if token.type == tokenize.STRING and re.search(r"\\[^nt\\'\"]", token.string.replace("\\\\", "")):
            found.append(("L27", name, token.start[0], "another escape"))


def own_attributes(trees, found):
    """The methods and values of the package's classes; one name is not both."""
    methods, values = {}, {}
    for name, tree in trees.items():
        for node in ast.walk(tree):
            if isinstance(node, ast.ClassDef):
                for part in node.body:
                    if isinstance(part, ast.FunctionDef):
                        methods[part.name] = (name, part.lineno)
            if isinstance(node, ast.Attribute) and isinstance(node.ctx, ast.Store):
                values[node.attr] = (name, node.lineno)
    for attribute in sorted(methods):
        if attribute in values:
            found.append(("L18", *values[attribute], f"{attribute} is a method and a value"))
        if attribute in TAKEN and attribute not in METHODS | {"add", "discard"}:
            found.append(("L26", *methods[attribute], f"{attribute} as a method"))
    for attribute in sorted(values):
        if attribute in TAKEN and attribute not in FREE_VALUES:
            found.append(("L26", *values[attribute], f"{attribute} as a value"))
    return {"methods": set(methods), "values": set(values)}


def drawn_files(tree):
    return {
        node.module.split(".", 1)[1] + ".py" for node in tree.body
        if isinstance(node, ast.ImportFrom) and (node.module or "").startswith(PACKAGE + ".")
    }


def look_at_circles(trees, found):
    for name in trees:
        reached, waiting = set(), drawn_files(trees[name])
        while waiting:
            other = waiting.pop()
            if other in trees and other not in reached:
                reached.add(other)
                waiting |= drawn_files(trees[other])
        if name in reached:
            found.append(("L16", name, 1, "draws from itself"))


def top_names(tree):
    """How often each name is bound at a file's top, and where the file itself defines it."""
    bound, defined, imports, classes = [], set(), set(), set()
    for node in tree.body:
        if isinstance(node, ast.ImportFrom):
            bound += [alias.asname or alias.name for alias in node.names]
            imports |= {alias.asname or alias.name for alias in node.names}
        elif isinstance(node, (ast.FunctionDef, ast.ClassDef)):
            bound.append(node.name)
            defined.add(node.name)
            if isinstance(node, ast.ClassDef):
                classes.add(node.name)
        elif isinstance(node, ast.Assign) and isinstance(node.targets[0], ast.Name):
            bound.append(node.targets[0].id)
            defined.add(node.targets[0].id)
    return bound, defined, imports, classes


def is_plain(node):
    if isinstance(node, (ast.List, ast.Tuple)):
        return all(is_plain(part) for part in node.elts)
    if isinstance(node, ast.Dict):
        return all(part is not None and is_plain(part) for part in node.keys + node.values)
    if isinstance(node, ast.UnaryOp):
        return isinstance(node.op, ast.USub) and is_plain(node.operand)
    return isinstance(node, (ast.Constant, ast.Name))


def is_docstring(node):
    return isinstance(node, ast.Expr) and isinstance(node.value, ast.Constant) and isinstance(node.value.value, str)


def called(node):
    """The plain name that is called, or None."""
    return node.func.id if isinstance(node, ast.Call) and isinstance(node.func, ast.Name) else None


class FileLook:
    def __init__(self, name, text, tree, trees, own, found):
        self.name, self.text, self.tree, self.trees = name, text, tree, trees
        self.own, self.found = own, found
        self.bound, self.defined, self.imports, self.classes = top_names(tree)
        self.above = {part: node for node in ast.walk(tree) for part in ast.iter_child_nodes(node)}
        self.is_main = name == "__main__.py"

    def say(self, rule, node, words):
        self.found.append((rule, self.name, getattr(node, "lineno", 0), words))

    def look(self):
        self.look_at_top()
        for node in ast.walk(self.tree):
            self.look_at_kind(node)
            look = getattr(self, "look_" + node.__class__.__name__, None)
            if look is not None:
                look(node)
        for node in self.tree.body:
            if isinstance(node, (ast.FunctionDef, ast.ClassDef)):
                self.look_at_names(node)

    def look_at_kind(self, node):
        if isinstance(node, ast.stmt) and not isinstance(node, STATEMENTS):
            if not (self.is_main and isinstance(node, ast.Import)):
                self.say("L6", node, node.__class__.__name__)
        if isinstance(node, ast.expr) and not isinstance(node, EXPRESSIONS):
            self.say("L7", node, node.__class__.__name__)
        if isinstance(node, (ast.Div, ast.MatMult)):
            self.say("L7", self.above[node], "a sign that is not used")

    def look_at_top(self):
        for place, node in enumerate(self.tree.body):
            if isinstance(node, ast.Assign):
                if not isinstance(node.targets[0], ast.Name) or not is_plain(node.value):
                    self.say("L3", node, "no plain value")
                for part in ast.iter_child_nodes(node.value):
                    if isinstance(node.value, (ast.List, ast.Dict)) and isinstance(part, (ast.List, ast.Dict)):
                        self.say("L15", node, "a list in a list")
            elif isinstance(node, ast.If):
                if not self.is_main or ast.unparse(node.test) != "__name__ == '__main__'":
                    self.say("L3", node, "done at the top")
            elif not isinstance(node, (ast.FunctionDef, ast.ClassDef, ast.ImportFrom)):
                if not (place == 0 and is_docstring(node)) and not (self.is_main and isinstance(node, ast.Import)):
                    self.say("L3", node, "done at the top")
        for name in self.bound:
            if self.bound.count(name) > 1:
                self.say("L15", self.tree, f"{name} is bound twice")
            if name in OWN | ERRORS or hasattr(builtins, name):
                self.say("L8", self.tree, f"{name} gets another meaning")
            if self.name == "__init__.py" and name + ".py" in self.trees:
                self.say("L16", self.tree, f"{name} is a file")

    def look_at_names(self, top):
        """Every name that a def or class reads is bound somewhere, or one of the few of Python's own."""
        inner = {node.id for node in ast.walk(top) if isinstance(node, ast.Name) and not isinstance(node.ctx, ast.Load)}
        inner |= {node.arg for node in ast.walk(top) if isinstance(node, ast.arg)}
        inner |= {node.name for node in ast.walk(top) if isinstance(node, ast.ExceptHandler) and node.name}
        inner |= {node.name for node in ast.walk(top) if isinstance(node, ast.FunctionDef) and node != top}
        known = inner | set(self.bound) | OWN | ERRORS
        known |= {"print", "sys"} if self.is_main else set()
        for node in ast.walk(top):
            if isinstance(node, ast.Name) and isinstance(node.ctx, ast.Load) and node.id not in known:
                self.say("L8", node, node.id)

    def check_name(self, name, node):
        if not re.fullmatch(r"[A-Za-z][A-Za-z0-9_]*", name) and name not in SPECIAL_NAMES:
            self.say("L12", node, name)
        if name in NO_NAMES_AT_ALL:
            self.say("L17", node, name)

    def check_local(self, name, node):
        self.check_name(name, node)
        if name in self.imports or name in self.classes or hasattr(builtins, name):
            self.say("L15", node, name)

    def look_ImportFrom(self, node):
        if self.above.get(node) != self.tree:
            self.say("L2", node, "not at the top")
        if node.module == "__future__" and [alias.name for alias in node.names] == ["annotations"]:
            return
        parts = (node.module or "").split(".")
        if node.level or parts[0] != PACKAGE or len(parts) != 2 or parts[1] == "__main__":
            self.say("L2", node, "not from a file of the package")
            return
        if parts[1] + ".py" not in self.trees:
            self.say("L16", node, "no such file")
            return
        for alias in node.names:
            if alias.name not in top_names(self.trees[parts[1] + ".py"])[1]:
                self.say("L16", node, f"{alias.name} is not defined there")

    def look_Import(self, node):
        if not self.is_main or [alias.name for alias in node.names] != ["sys"]:
            self.say("L2", node, "import")

    def look_FunctionDef(self, node):
        is_method = isinstance(self.above[node], ast.ClassDef)
        if is_method and node.name.startswith("__") and node.name not in SPECIAL_METHODS:
            self.say("L5", node, node.name)
        if not is_method:
            self.check_name(node.name, node)
            if node.name.startswith("__"):
                self.say("L8", node, node.name)
        elif node.name in NO_NAMES_AT_ALL:
            self.say("L17", node, node.name)
        if node.end_lineno - node.lineno + 1 > 40:
            self.say("L10", node, "too many lines")
        if node.decorator_list:
            self.say("L4", node, "decorator")
        if node.returns is not None:
            self.say("L21", node, "annotation")
        if node.name == "__init__":
            self.look_at_init(node)

    def look_at_init(self, node):
        for part in ast.walk(node):
            if isinstance(part, ast.Return) and part.value is not None:
                self.say("L28", part, "__init__ gives back something")

    def look_arguments(self, node):
        if node.vararg or node.kwarg or node.kwonlyargs or node.posonlyargs:
            self.say("L4", self.above[node], "no plain parameters")
        for default in node.defaults:
            if not is_plain(default):
                self.say("L4", default, "no plain value")

    def look_arg(self, node):
        self.check_local(node.arg, node)
        if node.annotation is not None:
            self.say("L21", node, "annotation")

    def look_ClassDef(self, node):
        if self.above[node] != self.tree:
            self.say("L15", node, "a class stands at the top")
        self.check_name(node.name, node)
        if len(node.bases) > 1 or node.keywords or node.decorator_list:
            self.say("L5", node, "no plain class")
        for base in node.bases:
            if not isinstance(base, ast.Name) or base.id not in ERRORS | self.classes | self.imports:
                self.say("L5", node, "another base")
            elif base.id in ("StopIteration", "AttributeError"):
                self.say("L18", node, "another base")
        for part in node.body:
            if not isinstance(part, (ast.FunctionDef, ast.Pass)) and not is_docstring(part):
                self.say("L5", part, "a value in the class body")
        names = [part.name for part in node.body if isinstance(part, ast.FunctionDef)]
        if len(names) != len(set(names)):
            self.say("L18", node, "a method stands twice")

    def look_Assign(self, node):
        if len(node.targets) != 1:
            self.say("L6", node, "several targets")

    def look_AnnAssign(self, node):
        self.say("L21", node, "annotation")

    def look_Expr(self, node):
        if not isinstance(node.value, ast.Call) and not is_docstring(node):
            self.say("L6", node, "no call")

    def look_For(self, node):
        if node.orelse:
            self.say("L6", node, "else behind a loop")
        self.look_at_walk(node)

    def look_While(self, node):
        if node.orelse:
            self.say("L6", node, "else behind a loop")

    def look_at_walk(self, loop):
        walked = self.walked_names(loop.iter)
        for node in ast.walk(loop):
            changed = None
            if isinstance(node, ast.Call) and isinstance(node.func, ast.Attribute) and node.func.attr in CHANGING:
                changed = ast.unparse(node.func.value)
            elif isinstance(node, ast.Subscript) and isinstance(node.ctx, ast.Store):
                changed = ast.unparse(node.value)
            if changed is not None and changed in walked:
                self.say("L23", node, f"{changed} is walked")

    def walked_names(self, node):
        if isinstance(node, ast.Call):
            if called(node) in ("enumerate", "zip", "reversed"):
                return {name for part in node.args for name in self.walked_names(part)}
            if isinstance(node.func, ast.Attribute) and node.func.attr in ("items", "keys", "values"):
                return {ast.unparse(node.func.value)}
            return set()
        return {ast.unparse(node)} if isinstance(node, (ast.Name, ast.Attribute)) else set()

    def look_Try(self, node):
        if node.finalbody:
            self.say("L6", node, "finally")

    def look_ExceptHandler(self, node):
        kinds = node.type.elts if isinstance(node.type, ast.Tuple) else [node.type]
        for kind in kinds:
            if not isinstance(kind, ast.Name):
                self.say("L6", node, "no named error class")
            elif kind.id in ("Exception", "TypeError"):
                self.say("L19", node, kind.id)
        if node.name:
            self.check_local(node.name, node)

    def look_Raise(self, node):
        if not isinstance(node.exc, ast.Call):
            self.say("L19", node, "makes no error on the spot")

    def look_Constant(self, node):
        value = node.value
        if not isinstance(value, (int, str)) and value is not None:
            self.say("L7", node, repr(value))
        if isinstance(value, str) and "%" in value:
            self.say("L27", node, "the percent sign")

    def look_FormattedValue(self, node):
        if not isinstance(node.value, ast.Name) or node.format_spec is not None or node.conversion not in (-1, 114):
            self.say("L7", node, "no plain name in an f-string")

    def look_BinOp(self, node):
        if isinstance(node.op, ast.Pow):
            power = node.right.value if isinstance(node.right, ast.Constant) else None
            if not isinstance(power, int) or not 0 <= power <= 64:
                self.say("L27", node, "no written exponent")

    def look_ListComp(self, node):
        if len(node.generators) != 1 or len(node.generators[0].ifs) > 1:
            self.say("L7", node, "more than one for or if")

    def look_Lambda(self, node):
        same = [
            other for other in ast.walk(self.tree)
            if isinstance(other, ast.Lambda) and other.lineno == node.lineno
            and ast.unparse(other.args) == ast.unparse(node.args)
        ]
        if len(same) > 1:
            self.say("L13", node, "two lambdas on one line")

    def look_Compare(self, node):
        sides = [node.left] + node.comparators
        for place, sign in enumerate(node.ops):
            if isinstance(sign, (ast.Is, ast.IsNot)):
                pair = sides[place:place + 2]
                if not any(isinstance(side, ast.Constant) and side.value in (None, True, False) for side in pair):
                    self.say("L20", node, "is")

    def look_Set(self, node):
        self.look_at_set(node)

    def look_at_set(self, node):
        above = self.above[node]
        while isinstance(above, ast.BinOp):
            above = self.above[above]
        if isinstance(above, ast.Compare):
            return
        if called(above) not in ("sorted", "len") or above.keywords:
            self.say("L24", node, "a set is kept or walked")

    def look_Name(self, node):
        if isinstance(node.ctx, ast.Store) and self.above.get(self.above[node]) is not None:
            self.check_local(node.id, node)
        elif not isinstance(node.ctx, ast.Load):
            self.check_name(node.id, node)
        if node.id in NO_NAMES | NO_NAMES_AT_ALL or node.id == "sys" and not self.is_main:
            self.say("L17", node, node.id)
        if isinstance(node.ctx, ast.Load) and node.id in OWN:
            self.look_at_own(node)

    def look_at_own(self, node):
        above = self.above[node]
        if isinstance(above, ast.Call) and above.func == node:
            return
        if isinstance(above, ast.keyword) and above.arg == "key":
            return
        call = self.above.get(above) if isinstance(above, ast.Tuple) else above
        if called(call) != "isinstance":
            self.say("L22", node, f"{node.id} is kept as a value")

    def look_Call(self, node):
        name = called(node)
        if any(isinstance(part, ast.Starred) for part in node.args) or any(part.arg is None for part in node.keywords):
            self.say("L7", node, "star")
        if name in OWN:
            for part in node.keywords:
                if part.arg not in KEYWORDS.get(name, ()):
                    self.say("L22", node, f"{part.arg} at {name}")
        if name in WALKED:
            self.look_at_walked(node)
        if name in ("set", "frozenset"):
            self.look_at_set(node)
        if isinstance(node.func, ast.Attribute):
            self.look_at_method(node)

    def look_at_method(self, node):
        name = node.func.attr
        if name not in METHODS | self.own["methods"] | SPECIAL_METHODS:
            self.say("L25", node, name)
        if name in METHODS and node.keywords:
            self.say("L22", node, f"a keyword at {name}")
        if name in ("items", "keys", "values"):
            self.look_at_walked(node)
        base = node.func.value
        if isinstance(base, ast.Name) and base.id in self.defined and name in CHANGING:
            self.say("L15", node, f"{base.id} is changed")

    def look_at_walked(self, node):
        above = self.above[node]
        if isinstance(above, (ast.For, ast.comprehension)) and above.iter == node:
            return
        if isinstance(above, ast.Call) and node in above.args[:1]:
            if called(above) in WALKERS:
                return
            if isinstance(above.func, ast.Attribute) and above.func.attr == "join":
                return
        self.say("L23", node, "not walked on the spot")

    def look_Attribute(self, node):
        if node.attr in NO_NAMES_AT_ALL:
            self.say("L17", node, node.attr)
        if node.attr.startswith("_") and node.attr not in SPECIAL_METHODS:
            self.say("L12", node, node.attr)
        above = self.above[node]
        is_called = isinstance(above, ast.Call) and above.func == node
        is_key = isinstance(above, ast.keyword) and above.arg == "key"
        if isinstance(node.ctx, ast.Load) and not is_called and not is_key and node.attr not in self.own["values"]:
            self.say("L25", node, f"{node.attr} is handed on")
        if isinstance(node.ctx, ast.Store) and isinstance(node.value, ast.Name) and node.value.id in self.bound:
            self.say("L18", node, "a value given to a name of the top")

    def look_Subscript(self, node):
        if isinstance(node.ctx, ast.Store) and isinstance(node.value, ast.Name) and node.value.id in self.defined:
            self.say("L15", node, f"{node.value.id} is changed")
