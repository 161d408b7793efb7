"""Finds what can be seen by machine of code that LANGUAGE.md does not allow; the package itself needs less."""

import ast
import builtins
import keyword
import pathlib
import re

BUILTINS = set(
    "len range enumerate zip min max sum abs sorted reversed int str bool bytes list tuple dict set frozenset"
    " isinstance ord repr any all divmod iter next super property staticmethod classmethod"
    " Exception ValueError TypeError KeyError IndexError LookupError ZeroDivisionError ArithmeticError"
    " OverflowError RuntimeError NotImplementedError AttributeError StopIteration NotImplemented".split())
METHODS = set(
    "append clear copy count endswith extend find get index insert isalnum isalpha isdigit islower isspace isupper"
    " items join keys ljust lower lstrip partition pop remove replace reverse rfind rjust rpartition rsplit rstrip"
    " setdefault split splitlines startswith strip update upper values zfill bit_length add discard".split())
DUNDERS = set(
    "__init__ __len__ __call__ __iter__ __contains__ __getitem__ __setitem__ __add__ __sub__ __and__ __or__"
    " __ior__".split())
LIBRARY = {"heapq": {"heappush", "heappop", "heapify", "heapreplace", "heappushpop"},
           "math": {"gcd", "lcm", "isqrt", "comb", "perm", "factorial"}}
BARRED = set(
    "register mro elements open input law version_info with_traceback add_note attrgetter breakpoint builtins compile"
    " copyright credits delattr dir eval exec exit gc getattr globals hasattr help id importlib license locals"
    " methodcaller os quit setattr type vars sys format format_map".split())
WORDS = set(
    "type typing typing_extensions enum Enum IntEnum StrEnum Flag IntFlag Generic Protocol ABC ABCMeta namedtuple"
    " NamedTuple TypedDict TYPE_CHECKING abstractmethod dataclass overload contextmanager".split())
NO_ATTRIBUTES = set(
    "items keys values pop update append clear extend insert remove reverse setdefault sort args encode decode hex"
    " fromhex format".split())
STARTS = ("_wall", "_pe_", "_dcw_", "_enum_", "_cm_", "_twin_re_", "_lay_", "_law_", "_stub_", "_sre", "_cold",
          "_tuplegetter", "_outside", "_record", "_written_out", "_member_names")
FLEETING = {"zip", "enumerate", "reversed", "range", "items", "keys", "values"}
TAKERS = {"list", "tuple", "dict", "sorted", "sum", "any", "all", "enumerate", "zip", "min", "max", "len", "reversed"}
CHANGERS = {"append", "clear", "extend", "insert", "pop", "remove", "reverse", "setdefault", "update", "add", "discard"}
NO_NODES = (ast.Global, ast.AsyncFor, ast.AsyncFunctionDef, ast.AsyncWith, ast.Await, ast.AnnAssign, ast.Div,
            ast.MatMult, ast.Match, ast.With, ast.Import, ast.GeneratorExp)


class Finder:
    """The findings in one file of the package, as strings `file:line rule: what`."""

    def __init__(self, name, text, own_methods):
        self.name = name
        self.text = text
        self.own_methods = own_methods
        self.found = []
        self.tree = ast.parse(text)
        self.parents = {child: node for node in ast.walk(self.tree) for child in ast.iter_child_nodes(node)}
        self.imported = {alias.name for node in self.tree.body if isinstance(node, ast.ImportFrom)
                         for alias in node.names}
        self.classes = {node.name for node in self.tree.body if isinstance(node, ast.ClassDef)}
        self.docstrings = {id(node.body[0].value) for node in ast.walk(self.tree)
                           if isinstance(node, (ast.Module, ast.ClassDef, ast.FunctionDef)) and node.body
                           and isinstance(node.body[0], ast.Expr) and isinstance(node.body[0].value, ast.Constant)}

    def tell(self, node, rule, what):
        line = node if isinstance(node, int) else getattr(node, "lineno", 0)
        self.found.append(f"{self.name}:{line} {rule}: {what}")

    def find(self):
        self.lines()
        self.module()
        for node in ast.walk(self.tree):
            if isinstance(node, NO_NODES):
                self.tell(node, "L6/L7/L21", type(node).__name__)
            method = getattr(self, "see_" + type(node).__name__, None)
            if method is not None:
                method(node)
        return self.found

    def lines(self):
        rows = self.text.split("\n")
        if len(rows) > 400:
            self.tell(len(rows), "L10", "more than 399 lines")
        for number, row in enumerate(rows, 1):
            if len(row) > 120:
                self.tell(number, "L10", "more than 120 characters")
            if re.search(r"[^ -~]", row):
                self.tell(number, "L14", "a character that is not allowed")
            if "_wall" in row or "_WallAttr" in row or "(type)" in row or "Meta" in row or "metaclass" in row:
                self.tell(number, "L12/L17", "a word that stands nowhere")
            if re.search(r"\\[^nt\\'\"]", row):
                self.tell(number, "L27", "an escape")

    def module(self):
        functions = set()
        for node in self.tree.body:
            if isinstance(node, ast.FunctionDef):
                functions.add(node.name)
            if isinstance(node, ast.Assign):
                if len(node.targets) != 1 or not isinstance(node.targets[0], ast.Name):
                    self.tell(node, "L3", "no plain assignment")
                elif any(isinstance(part, (ast.Call, ast.comprehension)) or isinstance(part, ast.Name) and not (
                        part.id in functions and part is not node.value) for part in ast.walk(node.value)):
                    self.tell(node, "L3", "a value that is not written out")
            elif isinstance(node, ast.Expr):
                if id(node.value) not in self.docstrings:
                    self.tell(node, "L3", "code at module level")
            elif not isinstance(node, (ast.ImportFrom, ast.FunctionDef, ast.ClassDef)):
                self.tell(node, "L3", type(node).__name__)

    def see_ImportFrom(self, node):
        names = {alias.name for alias in node.names}
        own = node.level == 0 and node.module and node.module.startswith("coretower.")
        if not own and not (node.module in LIBRARY and names <= LIBRARY[node.module]):
            self.tell(node, "L2", f"import from {node.module}")
        if "*" in names or any(alias.asname for alias in node.names):
            self.tell(node, "L2", "a star or a new name")

    def see_FunctionDef(self, node):
        if node.end_lineno - node.lineno + 1 > 40:
            self.tell(node, "L10", f"{node.name} has more than 40 lines")
        for mark in node.decorator_list:
            if not isinstance(mark, ast.Name) or mark.id not in ("property", "staticmethod", "classmethod"):
                self.tell(node, "L4", "a decorator")
        if node.name.startswith("__") and node.name not in DUNDERS:
            self.tell(node, "L5", node.name)
        if node.returns is not None:
            self.tell(node, "L21", "an annotation")
        self.word(node, node.name)
        in_class = isinstance(self.parents[node], ast.ClassDef)
        if not in_class and hasattr(builtins, node.name):
            self.tell(node, "L15", f"{node.name} is a builtin")
        if node.name in BUILTINS:
            self.tell(node, "L8", f"{node.name} is a builtin")
        if in_class and not node.name.startswith("__"):
            for kind in (str, int, list, dict, set, bytes):
                if hasattr(kind, node.name) and node.name not in METHODS:
                    self.tell(node, "L26", f"{node.name} is a method of builtin values")
        if node.name == "__len__" and not (
                len(node.body) == 1 and ast.unparse(node.body[0]).startswith("return len(self.")):
            self.tell(node, "L5/L7", "a length that is not that of an attribute")
        if node.name == "__iter__" and not (
                len(node.body) == 1 and re.fullmatch(r"return iter\(self\.\w+\)", ast.unparse(node.body[0]))):
            self.tell(node, "L5", "an iteration that is not that of an attribute")

    def see_ClassDef(self, node):
        self.word(node, node.name)
        if node.decorator_list or node.keywords:
            self.tell(node, "L5", "a decorator or a keyword")
        names = [part.name for part in node.body if isinstance(part, ast.FunctionDef)]
        if len(names) != len(set(names)):
            self.tell(node, "L18", "a method is defined twice")
        if "__getitem__" in names and "__iter__" not in names:
            self.tell(node, "L5", "items without iteration")

    def see_arg(self, node):
        if node.annotation is not None:
            self.tell(node, "L21", "an annotation")
        self.variable(node, node.arg)

    def see_Name(self, node):
        if isinstance(node.ctx, ast.Load):
            if hasattr(builtins, node.id) and node.id not in BUILTINS:
                self.tell(node, "L8", f"{node.id} is not used")
            if node.id == "_":
                self.tell(node, "L12", "_ is read")
        elif self.parents[node] not in self.tree.body:
            self.variable(node, node.id)
        elif hasattr(builtins, node.id):
            self.tell(node, "L15", f"{node.id} is a builtin")

    def variable(self, node, name):
        self.word(node, name)
        if name in self.imported or name in self.classes or hasattr(builtins, name):
            self.tell(node, "L15", f"{name} has another meaning")

    def word(self, node, name):
        if name in BARRED or name in WORDS or name.startswith(STARTS) or keyword.issoftkeyword(name) and name != "_":
            self.tell(node, "L12/L17", f"{name} is barred")
        if name.startswith("__") and name not in DUNDERS:
            self.tell(node, "L8", f"{name} begins with two underscores")

    def see_Attribute(self, node):
        self.word(node, node.attr)
        if node.attr.startswith("__") and node.attr != "__init__":
            self.tell(node, "L8", node.attr)
        if isinstance(node.ctx, ast.Store) and node.attr in NO_ATTRIBUTES:
            self.tell(node, "L26", f"attribute {node.attr}")
        if isinstance(node.ctx, ast.Del):
            self.tell(node, "L6", "an attribute is deleted")

    def see_Call(self, node):
        if isinstance(node.func, ast.Attribute):
            name = node.func.attr
            if name not in METHODS and name not in self.own_methods and name != "__init__":
                self.tell(node, "L25", f"method {name}")
            if name == "sort":
                self.tell(node, "L25", "sort")
        name = getattr(node.func, "id", getattr(node.func, "attr", None))
        if isinstance(node.func, ast.Name) and name in BUILTINS:
            allowed = {"sorted": {"key", "reverse"}, "min": {"key", "default"}, "max": {"key", "default"},
                       "sum": {"start"}, "enumerate": {"start"}, "zip": {"strict"}}.get(name, set())
            if any(word.arg not in allowed for word in node.keywords):
                self.tell(node, "L22", f"a keyword of {name}")
        if name in FLEETING and (isinstance(node.func, ast.Name) or not node.args):
            self.fleeting(node, name)
        if name == "reversed":
            self.reversed_place(node)
        if name == "set":
            self.set_place(node)

    def reversed_place(self, node):
        what = node.args[0]
        if not isinstance(what, (ast.List, ast.Tuple)) and not (
                isinstance(what, ast.Call) and getattr(what.func, "id", "") in ("list", "tuple", "sorted", "range")):
            self.tell(node, "L5", "reversed over what may be an own object")

    def fleeting(self, node, name):
        parent = self.parents[node]
        fine = (isinstance(parent, (ast.For, ast.comprehension)) and parent.iter is node
                or isinstance(parent, ast.Call) and getattr(parent.func, "id", "") in TAKERS
                or name == "range" and isinstance(parent, ast.Compare))
        if not fine:
            self.tell(node, "L23", f"{name} is not iterated at once")

    def see_Set(self, node):
        self.set_place(node)

    def see_SetComp(self, node):
        self.set_place(node)

    def set_place(self, node):
        parent = self.parents[node]
        fine = (isinstance(parent, ast.Call) and getattr(parent.func, "id", "") in ("sorted", "len")
                and not [word for word in parent.keywords if not isinstance(node, ast.Set)]
                or isinstance(parent, (ast.BinOp, ast.Compare))
                or isinstance(parent, ast.Assign) and isinstance(parent.targets[0], ast.Name))
        if not fine:
            self.tell(node, "L24", "a set where none may stand")

    def see_Starred(self, node):
        if not isinstance(node.value, (ast.Name, ast.Attribute, ast.List, ast.Tuple)):
            self.tell(node, "L7", "a star over what is no name")

    def see_Compare(self, node):
        for operator, right in zip(node.ops, node.comparators):
            if isinstance(operator, (ast.Is, ast.IsNot)) and not (
                    isinstance(right, ast.Constant) and right.value in (None, True, False)):
                self.tell(node, "L20", "is")

    def see_Constant(self, node):
        value = node.value
        if isinstance(value, (float, complex)):
            self.tell(node, "L7", "a float")
        if not isinstance(value, str):
            return
        if "%" in value or re.fullmatch(r"__.*__", value) or value.endswith(("._", ".__")):
            self.tell(node, "L27", "a string")
        if id(node) not in self.docstrings and WORDS & set(re.findall(r"\w+", value)) - {"type"}:
            self.tell(node, "L17", "a word in a string")

    def see_BinOp(self, node):
        if isinstance(node.op, ast.Pow) and not isinstance(node.right, ast.Constant):
            self.tell(node, "L27", "a power")

    def see_Try(self, node):
        for handler in node.handlers:
            caught = ast.unparse(handler.type) if handler.type is not None else ""
            if caught in ("", "Exception", "ValueError", "TypeError", "LookupError", "IndexError", "AttributeError"):
                self.tell(handler, "L19", f"caught {caught}")

    def see_For(self, node):
        function = node
        while not isinstance(function, (ast.FunctionDef, ast.Module)):
            function = self.parents[function]
        groups = same_things(function)
        walked = set().union(*[groups.get(name, {name}) for name in walked_names(node.iter)])
        for part in ast.walk(ast.Module(node.body + node.orelse, [])):
            for name in changed_names(part):
                if name in walked:
                    self.tell(part, "L23", f"{name} is walked here")

    def see_Raise(self, node):
        if node.exc is not None and not (
                isinstance(node.exc, ast.Call) and isinstance(node.exc.func, ast.Name)
                and node.exc.func.id in self.imported | self.classes | BUILTINS):
            self.tell(node, "L19", "raise of what is not created on the spot")


def chosen_names(node):
    """The names and attributes that an expression may stand for."""
    if isinstance(node, ast.IfExp):
        return chosen_names(node.body) | chosen_names(node.orelse)
    if isinstance(node, ast.BoolOp):
        return set().union(*[chosen_names(value) for value in node.values])
    if isinstance(node, (ast.Name, ast.Attribute, ast.Subscript)):
        return {ast.unparse(node)}
    return set()


def walked_names(node):
    """What a loop over this expression walks."""
    if isinstance(node, ast.Call):
        name = getattr(node.func, "id", getattr(node.func, "attr", ""))
        if name in ("enumerate", "zip", "reversed"):
            return set().union(*[walked_names(part) for part in node.args])
        if name in ("items", "values", "keys") and not node.args:
            return chosen_names(node.func.value)
        return set()
    return chosen_names(node)


def same_things(function):
    """For each name of a function, all names that one assignment or several make the same thing."""
    groups = {}
    for node in ast.walk(function):
        if isinstance(node, ast.Assign):
            for target in node.targets:
                for left in chosen_names(target):
                    for right in chosen_names(node.value):
                        joint = groups.get(left, {left}) | groups.get(right, {right})
                        for name in joint:
                            groups[name] = joint
    return groups


def changed_names(node):
    """What a statement or call changes without giving it a new value."""
    if isinstance(node, ast.Call) and isinstance(node.func, ast.Attribute) and node.func.attr in CHANGERS:
        return chosen_names(node.func.value)
    if isinstance(node, ast.Subscript) and not isinstance(node.ctx, ast.Load):
        return chosen_names(node.value)
    if isinstance(node, ast.AugAssign):
        return chosen_names(node.target)
    return set()


def package_files(folder):
    """The paths of the files of the package, in order."""
    paths = [path for path in pathlib.Path(folder).rglob("*") if path.is_file()]
    return sorted(path for path in paths if "__pycache__" not in path.parts)


def methods_of(tree):
    """The names of the methods of a file."""
    return {part.name for node in tree.body if isinstance(node, ast.ClassDef)
            for part in node.body if isinstance(part, ast.FunctionDef)}


def class_findings(trees):
    """Names that are a method of one class and an attribute anywhere, and generators whose name stands twice."""
    found = []
    methods, attributes, generators, defined = {}, set(), set(), []
    for tree in trees.values():
        for node in ast.walk(tree):
            if isinstance(node, ast.FunctionDef):
                defined.append(node.name)
                if any(isinstance(part, (ast.Yield, ast.YieldFrom)) for part in ast.walk(node)):
                    generators.add(node.name)
            if isinstance(node, ast.Attribute) and isinstance(node.ctx, ast.Store):
                attributes.add(node.attr)
        for name in methods_of(tree):
            methods[name] = True
    found += [f"L18: {name} is a method and an attribute" for name in sorted(attributes & set(methods))]
    found += [f"L23: generator {name} stands twice" for name in sorted(generators) if defined.count(name) > 1]
    return found


def findings(folder):
    """All findings in the package in this folder."""
    found = []
    trees = {}
    for path in package_files(folder):
        if path.suffix != ".py":
            found.append(f"{path.name} L1: no .py file")
        else:
            trees[path.name] = ast.parse(path.read_text())
    own_methods = set().union(*[methods_of(tree) for tree in trees.values()])
    for path in package_files(folder):
        if path.name in trees:
            found += Finder(path.name, path.read_text(), own_methods).find()
    return found + class_findings(trees)
