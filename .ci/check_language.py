"""Checks what can be checked shortly of the rules that each file of the package keeps to (LANGUAGE.md).

It is narrower than these rules in places: constructs that the package does not use so far (match, with, generators,
annotations, lambdas, __main__ ..) are rejected until they are needed; then their rules are to be added here, too.

Usage: python3 .ci/check_language.py FOLDER
"""

import ast
import builtins
import os
import re
import sys

# Python binds _ there while it shows values.
BUILTINS = set(dir(builtins)) - {"_"}
FUNCTIONS = set("""len range enumerate zip min max sum abs sorted reversed int str bool list tuple dict set isinstance
    ord repr any all divmod iter next""".split())
ERRORS = set("""Exception ValueError TypeError KeyError IndexError LookupError ZeroDivisionError ArithmeticError
    OverflowError RuntimeError NotImplementedError AttributeError StopIteration NotImplemented""".split())
CAUGHT = {"KeyError", "ZeroDivisionError"}
METHODS = set("""append clear copy count endswith extend find get index insert isalnum isalpha isdigit islower isspace
    isupper items join keys ljust lower lstrip partition pop remove replace reverse rfind rjust rpartition rsplit
    rstrip setdefault split splitlines startswith strip update upper values zfill bit_length add discard""".split())
LIBRARY = {
    "heapq": {"heappush", "heappop", "heapify", "heapreplace", "heappushpop"},
    "math": {"gcd", "lcm", "isqrt", "comb", "perm", "factorial"},
    "itertools": {"product", "combinations", "permutations", "chain", "accumulate", "pairwise", "islice",
                  "zip_longest"},
    "collections": {"defaultdict"},
}
KEYWORDS = {"sorted": {"key", "reverse"}, "min": {"key", "default"}, "max": {"key", "default"}, "sum": {"start"},
            "enumerate": {"start"}, "zip": {"strict"}}
AT_ONCE = {"zip", "enumerate", "reversed", "range"}
VIEWS = {"items", "keys", "values"}
CHANGES = set("append clear extend insert pop remove reverse setdefault update add discard".split())
TAKERS = set("list tuple dict sorted sum any all enumerate zip min max".split())
NODES = set("""Module Expr Assign AugAssign For While If Return Break Continue Pass Raise Assert Delete Try
    ExceptHandler FunctionDef ClassDef ImportFrom alias arguments arg keyword Load Store Del Name Attribute Subscript
    Slice Starred Constant JoinedStr FormattedValue List Tuple Dict Set ListComp SetComp DictComp comprehension Call
    IfExp BoolOp And Or UnaryOp Not USub Invert BinOp Add Sub Mult FloorDiv Mod Pow LShift RShift BitAnd BitOr BitXor
    Compare Eq NotEq Lt LtE Gt GtE Is IsNot In NotIn""".split())
ARITHMETIC = "add sub mul floordiv mod pow and or xor lshift rshift".split()
SPECIAL = {f"__{part}__" for part in """init eq repr str len call iter lt le gt ge ne neg pos invert abs bool contains
    getitem setitem""".split()}
SPECIAL |= {f"__{sign}{part}__" for sign in ("", "r", "i") for part in ARITHMETIC} - {"__rpow__"}
NOWHERE = set("register mro elements open input law version_info with_traceback add_note format format_map".split())
NOWHERE |= set(re.findall(r"\w+", """f_back f_builtins f_code f_globals f_lasti f_lineno f_locals f_trace tb_frame
    tb_lasti tb_lineno tb_next co_argcount co_cellvars co_code co_consts co_names co_varnames gi_frame gi_code"""))
NO_NAMES = set("""attrgetter breakpoint builtins compile copyright credits delattr dir eval exec exit gc getattr globals
    hasattr help id importlib license locals methodcaller os quit setattr super sys type vars""".split())
NO_WORDS = set("""typing typing_extensions enum Enum IntEnum StrEnum Flag IntFlag Generic Protocol ABC ABCMeta
    namedtuple NamedTuple TypedDict TYPE_CHECKING abstractmethod""".split())
NO_STARTS = re.compile(r"_wall|_pe_|_dcw_|_enum_|_cm_|_twin_re_|_lay_|_law_|_stub_|_sre|_WallAttr"
                       r"|(_cold|_tuplegetter|_outside|_record|_written_out|_member_names)[0-9_]*$")
NO_FILES = re.compile(r"(law_.*|test.*|tests|testing|site|conftest|sitecustomize|usercustomize)$")
NO_ATTRIBUTES = set("items keys values pop update append clear extend insert remove reverse setdefault sort args encode"
                    " decode hex fromhex".split())


class Checker:
    """Goes through one file of the package and collects what breaks a rule."""

    def __init__(self, path, text, package):
        self.path = path
        self.text = text
        self.package = package
        self.found = []
        self.tree = ast.parse(text)
        self.parents = {child: node for node in ast.walk(self.tree) for child in ast.iter_child_nodes(node)}
        self.docstrings = {node.body[0].value for node in ast.walk(self.tree)
                           if isinstance(node, (ast.Module, ast.ClassDef, ast.FunctionDef))
                           and ast.get_docstring(node, clean=False) is not None}

    def say(self, node, rule, why):
        line = node if isinstance(node, int) else getattr(node, "lineno", 1)
        self.found.append(f"{self.path}:{line}: {rule} {why}")

    def check(self):
        self.check_text()
        self.check_module_level()
        for node in ast.walk(self.tree):
            name = type(node).__name__
            if name not in NODES:
                self.say(node, "L6/L7", f"{name} is not used")
            method = getattr(self, "check_" + name, None)
            if method is not None:
                method(node)
        return self.found

    def check_text(self):
        lines = self.text.split("\n")
        if len(lines) - 1 > 399:
            self.say(1, "L10", "more than 399 lines")
        for number, line in enumerate(lines, 1):
            if len(line) > 120:
                self.say(number, "L10", "more than 120 characters")
            if re.search(r"[^ -~]", line):
                self.say(number, "L14", "a character that is not one from the space to ~")
            if re.search(r"\\[^nt\\'\"]", line):
                self.say(number, "L27", "an escape other than those that are allowed")
            if re.search(r"_wall\b|_WallAttr|dataclass|overload|contextmanager|\(type\)|Meta|metaclass=", line):
                self.say(number, "L12/L17", "a word that stands nowhere")

    def check_module_level(self):
        kinds = []
        bound = []
        for node in self.tree.body:
            if isinstance(node, ast.Expr) and node.value in self.docstrings:
                continue
            kinds.append(type(node).__name__)
            if isinstance(node, (ast.FunctionDef, ast.ClassDef)):
                bound.append(node.name)
            elif isinstance(node, ast.ImportFrom):
                bound.extend(each.asname or each.name for each in node.names)
            elif isinstance(node, ast.Assign) and len(node.targets) == 1 and isinstance(node.targets[0], ast.Name):
                self.check_plain(node.value, self.functions(bound))
                bound.append(node.targets[0].id)
            else:
                self.say(node, "L3", "not at module level")
        if "ImportFrom" in kinds[sum(kind == "ImportFrom" for kind in kinds):]:
            self.say(1, "L2", "an import that does not stand at the top")
        for name in sorted(set(bound)):
            if bound.count(name) > 1:
                self.say(1, "L15", f"{name} is bound twice")
        self.fixed = {each.asname or each.name for node in self.tree.body if isinstance(node, ast.ImportFrom)
                      for each in node.names}
        self.fixed |= {node.name for node in self.tree.body if isinstance(node, ast.ClassDef)}
        self.library = {each.name for node in self.tree.body if isinstance(node, ast.ImportFrom)
                        and node.module in LIBRARY for each in node.names}

    def functions(self, names):
        """Those of the names that are functions of this file."""
        return {node.name for node in self.tree.body if isinstance(node, ast.FunctionDef)} & set(names)

    def check_plain(self, value, functions):
        """A value at module level: literals, and functions that stand above in lists, tuples and dicts."""
        for node in ast.walk(value):
            if isinstance(node, ast.Name) and node is not value and node.id in functions:
                continue
            if not isinstance(node, (ast.Constant, ast.List, ast.Tuple, ast.Dict, ast.UnaryOp, ast.USub, ast.Load)):
                self.say(value, "L3", "a value that is not plain")
                return
        for node in ast.walk(value):
            if node is not value and isinstance(node, (ast.List, ast.Dict)):
                self.say(value, "L15", "a list or dict within a value at module level")

    def check_ImportFrom(self, node):
        if node.level or self.parents[node] is not self.tree or node.names[0].name == "*":
            self.say(node, "L2", "an import of another form")
        folder, _, file = (node.module or "").partition(".")
        if node.module in LIBRARY:
            if any(each.name not in LIBRARY[node.module] or each.asname for each in node.names):
                self.say(node, "L2", "an import from the library that is not allowed")
        elif folder != self.package.name or file not in self.package.trees:
            self.say(node, "L2", f"an import from {node.module}")
        else:
            for each in node.names:
                if each.name not in self.package.defined[file]:
                    self.say(node, "L16", f"{each.name} is not defined in {file}")

    def check_Import(self, node):
        self.say(node, "L2", "an import of another form")

    def check_name(self, node, name):
        if not re.fullmatch(r"_?[A-Za-z][A-Za-z0-9_]*|_", name) or NO_STARTS.match(name):
            self.say(node, "L12", f"the name {name}")
        if name in NOWHERE | NO_NAMES | NO_WORDS or name in BUILTINS:
            self.say(node, "L15/L17", f"the name {name} is not used")

    def check_FunctionDef(self, node):
        if node.end_lineno - node.lineno + 1 > 40:
            self.say(node, "L10", f"{node.name} has more than 40 lines")
        is_method = isinstance(self.parents[node], ast.ClassDef)
        for each in node.decorator_list:
            if not is_method or ast.unparse(each) not in ("property", "staticmethod", "classmethod"):
                self.say(node, "L4/L5", "a decorator")
        if node.returns is not None:
            self.say(node, "L21", "an annotation")
        if is_method and node.name.startswith("__"):
            self.check_special(node)
        elif is_method and node.name in NOWHERE | NO_NAMES | FUNCTIONS | ERRORS:
            self.say(node, "L17", f"a method {node.name}")
        elif not is_method:
            self.check_name(node, node.name)
        for default in node.args.defaults + [each for each in node.args.kw_defaults if each is not None]:
            if any(isinstance(part, (ast.Name, ast.Call, ast.List, ast.Dict, ast.Set)) for part in ast.walk(default)):
                self.say(default, "L4", "a default value that is not plain")

        if node.name == "__init__" and any(isinstance(each, ast.Return) for each in ast.walk(node)):
            self.say(node, "L28", "__init__ returns something")
        self.check_stored_sets(node)

    def check_stored_sets(self, function):
        """A set that is kept has one name, is bound once, and is only tested, measured, sorted and added to."""
        own = list(own_nodes(function))
        kept = [each.targets[0].id for each in own if isinstance(each, ast.Assign) and is_set(each.value)
                and isinstance(each.targets[0], ast.Name)]
        for name in kept:
            bound = [each for each in own if isinstance(each, ast.Name) and each.id == name
                     and not isinstance(each.ctx, ast.Load)]
            bound += [each for each in ast.walk(function.args) if isinstance(each, ast.arg) and each.arg == name]
            if len(bound) > 1:
                self.say(function, "L24", f"the set {name} is bound again")
        for each in ast.walk(function):
            if isinstance(each, ast.Name) and each.id in kept and isinstance(each.ctx, ast.Load):
                if each not in own or not self.is_set_use(each):
                    self.say(each, "L24", f"the set {each.id} is used for something else")

    def is_set_use(self, node):
        parent = self.parents[node]
        if isinstance(parent, ast.Compare):
            return node is not parent.left and isinstance(parent.ops[0], (ast.In, ast.NotIn))
        if isinstance(parent, ast.Attribute):
            statement = self.parents[self.parents[parent]]
            return parent.attr in ("add", "discard") and isinstance(statement, ast.Expr)
        if isinstance(parent, ast.Call):
            return isinstance(parent.func, ast.Name) and parent.func.id in ("len", "sorted") and parent.args[0] is node
        return isinstance(parent, (ast.If, ast.While, ast.IfExp)) and parent.test is node

    def check_comprehension_size(self, node):
        if len(node.generators) > 6 or sum(len(each.ifs) for each in node.generators) > 12:
            self.say(node, "L7", "a comprehension with too many parts")

    check_ListComp = check_DictComp = check_comprehension_size

    def check_special(self, node):
        if node.name not in SPECIAL:
            self.say(node, "L5", f"the method {node.name}")
        if node.name.strip("_").lstrip("ri") in ARITHMETIC + ["contains"] or node.name[2:-2] in ARITHMETIC:
            names = [each.arg for each in node.args.args]
            if len(names) != 2 or names[0] != "self" or node.args.defaults or node.args.vararg or node.args.kwarg:
                self.say(node, "L5", f"the parameters of {node.name}")
        if node.name in ("__eq__", "__len__", "__contains__", "__getitem__"):
            self.check_quiet(node)

    def check_quiet(self, node):
        """These assign and change nothing here, and end with what they return; __len__ with len(..)."""
        for each in ast.walk(node):
            kept = isinstance(each, (ast.Attribute, ast.Subscript)) and not isinstance(each.ctx, ast.Load)
            if kept or isinstance(each, (ast.AugAssign, ast.Delete)):
                self.say(each, "L5/L28", f"{node.name} changes something")
            if isinstance(each, ast.Call) and isinstance(each.func, ast.Attribute) and each.func.attr in CHANGES:
                self.say(each, "L5/L28", f"{node.name} changes something")
            if node.name == "__len__" and isinstance(each, ast.Return) and not is_len(each.value):
                self.say(each, "L28", "__len__ returns something else than len(..)")

    def check_arg(self, node):
        if node.annotation is not None:
            self.say(node, "L21", "an annotation")
        self.check_name(node, node.arg)
        if node.arg in self.fixed:
            self.say(node, "L15", f"{node.arg} is an import or a class of this file")

    def check_ClassDef(self, node):
        if node.decorator_list or node.keywords or self.parents[node] is not self.tree:
            self.say(node, "L5", "a class with a decorator or keywords, or inside of something")
        self.check_name(node, node.name)
        names = [each.name for each in node.body if isinstance(each, ast.FunctionDef)]
        if "__getitem__" in names and ("__iter__" not in names or "keys" in self.package.methods):
            self.say(node, "L5", "__getitem__ without __iter__, or with a method keys")
        if len(names) != len(set(names)):
            self.say(node, "L18", "a method that is defined twice")
        if any(isinstance(each, ast.Attribute) and ast.unparse(each.value) == "self" and each.attr in names
               and isinstance(each.ctx, ast.Store) for each in ast.walk(node)):
            self.say(node, "L18", "a name that is a method and an attribute")
        for each in node.body:
            if not isinstance(each, (ast.FunctionDef, ast.Pass)) and getattr(each, "value", 0) not in self.docstrings:
                self.say(each, "L5", "something else than a method in a class")

    def check_Name(self, node):
        if not isinstance(node.ctx, ast.Load):
            self.check_name(node, node.id)
            if node.id in self.fixed:
                self.say(node, "L15", f"{node.id} is an import or a class of this file")
        elif node.id == "_":
            self.say(node, "L12", "_ is read")
        elif node.id == "property":
            if not isinstance(self.parents[node], ast.FunctionDef):
                self.say(node, "L8", "property is read")
        elif node.id in self.library:
            parent = self.parents[node]
            if not isinstance(parent, ast.Call) or parent.func is not node or parent.keywords:
                self.say(node, "L2", f"{node.id} is not called by position")
        elif node.id in BUILTINS and node.id not in FUNCTIONS | ERRORS:
            self.say(node, "L8", f"the builtin {node.id}")
        elif node.id in FUNCTIONS:
            self.check_builtin(node)

    def check_builtin(self, node):
        parent = self.parents[node]
        outer = self.parents[parent] if isinstance(parent, ast.Tuple) else parent
        is_kind = isinstance(outer, ast.Call) and ast.unparse(outer.func) == "isinstance" and node is not outer.args[0]
        is_key = isinstance(parent, ast.keyword) and parent.arg == "key"
        if not (isinstance(parent, ast.Call) and parent.func is node or is_kind or is_key):
            self.say(node, "L22", f"{node.id} is kept or passed on")

    def check_Attribute(self, node):
        parent = self.parents[node]
        is_call = isinstance(parent, ast.Call) and parent.func is node
        own = self.package.attributes | self.package.methods
        if node.attr not in own and not (is_call and node.attr in METHODS):
            self.say(node, "L25", f"the method or attribute {node.attr}")
        if node.attr in NOWHERE or not isinstance(node.ctx, ast.Load) and node.attr in NO_ATTRIBUTES:
            self.say(node, "L17/L26", f"the attribute {node.attr}")
        if node.attr.startswith("__"):
            self.say(node, "L5/L8", f"{node.attr} is called by name")

    def check_Call(self, node):
        name = node.func.id if isinstance(node.func, ast.Name) else None
        method = node.func.attr if isinstance(node.func, ast.Attribute) else None
        for each in node.keywords:
            if name in FUNCTIONS and each.arg not in KEYWORDS.get(name, set()):
                self.say(node, "L22", f"the keyword {each.arg} of {name}")
            if each.arg is None or method in METHODS:
                self.say(node, "L22/L25", "a keyword or ** in this call")
        if (name in AT_ONCE or method in VIEWS) and not self.is_iterated(node):
            self.say(node, "L23", f"{name or method} is not iterated at once")
        if name in FUNCTIONS - {"max", "min", "zip"} and any(isinstance(each, ast.Starred) for each in node.args):
            self.say(node, "L7", f"a star in a call of {name}")
        if name == "set" and not self.is_set_place(node):
            self.say(node, "L24", "a set at this place")
        if not isinstance(node.func, (ast.Name, ast.Attribute, ast.Subscript)):
            self.say(node, "L7", "a call of something else than a name")
        if name in self.package.parameters and not any(isinstance(each, ast.Starred) for each in node.args):
            self.check_passed(node, self.package.parameters[name])

    def check_passed(self, node, parameters):
        """Each call of an own function passes what it takes, no more and no less."""
        names, needed = parameters
        passed = names[:len(node.args)] + [each.arg for each in node.keywords]
        if len(node.args) > len(names) or len(set(passed)) < len(passed) or not set(needed) <= set(passed) <= set(names):
            self.say(node, "L22", f"{node.func.id} takes other arguments")

    def is_iterated(self, node):
        parent = self.parents[node]
        if isinstance(parent, (ast.For, ast.comprehension)):
            return parent.iter is node
        return (isinstance(parent, ast.Call) and isinstance(parent.func, ast.Name) and parent.func.id in TAKERS
                and parent.args[0] is node)

    def is_set_place(self, node):
        parent = self.parents[node]
        if isinstance(parent, ast.Compare):
            return True
        if isinstance(parent, ast.Assign):
            return isinstance(parent.targets[0], ast.Name)
        return (isinstance(parent, ast.Call) and isinstance(parent.func, ast.Name)
                and parent.func.id in ("sorted", "len") and not parent.keywords)

    def check_SetComp(self, node):
        if isinstance(node, ast.SetComp):
            self.check_comprehension_size(node)
        if not self.is_set_place(node):
            self.say(node, "L24", "a set at this place")

    def check_Set(self, node):
        self.check_SetComp(node)
        if sum(isinstance(each, ast.Constant) and isinstance(each.value, int) for each in node.elts) > 2:
            self.say(node, "L13", "a set of three or more integers")

    def check_Compare(self, node):
        for sign, side in zip(node.ops, node.comparators):
            plain = isinstance(side, ast.Constant) and any(side.value is each for each in (None, True, False))
            if isinstance(sign, (ast.Is, ast.IsNot)) and not plain:
                self.say(node, "L20", "is beside something else than None, True and False")

    def check_Constant(self, node):
        if not isinstance(node.value, (int, str, bytes, type(None))):
            self.say(node, "L7", f"the value {node.value!r}")
        if isinstance(node.value, str) and node not in self.docstrings:
            words = set(re.findall(r"\w+", node.value))
            if "%" in node.value or words & NO_WORDS or any(word.startswith("__") for word in words):
                self.say(node, "L17/L27", f"the string {node.value!r}")

    def check_Raise(self, node):
        if node.exc is not None and not (isinstance(node.exc, ast.Call) and isinstance(node.exc.func, ast.Name)):
            self.say(node, "L19", "raise of something that is not created on the spot")

    def check_Try(self, node):
        if node.finalbody:
            self.say(node, "L6", "finally")

    def check_ExceptHandler(self, node):
        names = node.type.elts if isinstance(node.type, ast.Tuple) else [node.type]
        for each in names:
            if not isinstance(each, ast.Name) or each.id not in CAUGHT | self.package.errors:
                self.say(node, "L19", "an error that is not caught")

    def check_BinOp(self, node):
        if isinstance(node.op, ast.Pow):
            if not isinstance(node.right, ast.Constant) or not 0 <= node.right.value <= 64:
                self.say(node, "L27", "an exponent that is not a literal from 0 to 64")

    def check_For(self, node):
        for name in iterated(node.iter):
            self.check_unchanged(node, name)

    def check_comprehension(self, node):
        for name in iterated(node.iter):
            self.check_unchanged(self.parents[node], name)

    def check_unchanged(self, loop, name):
        for node in ast.walk(loop):
            if isinstance(node, ast.Call) and isinstance(node.func, ast.Attribute):
                if node.func.attr in CHANGES and ast.unparse(node.func.value) == name:
                    self.say(node, "L23", f"{name} is changed while it is iterated")
            if isinstance(node, ast.Subscript) and not isinstance(node.ctx, ast.Load):
                if ast.unparse(node.value) == name:
                    self.say(node, "L23", f"{name} is changed while it is iterated")


class Package:
    """The files of a package, and the names that they define together."""

    def __init__(self, folder):
        self.folder = folder
        self.name = os.path.basename(os.path.abspath(folder))
        self.found = []
        self.texts = {}
        self.read()
        self.trees = {file: ast.parse(text) for file, text in self.texts.items()}
        self.defined = {file: {name for node in tree.body for name in defined_names(node)}
                        for file, tree in self.trees.items()}
        nodes = [node for tree in self.trees.values() for node in ast.walk(tree)]
        classes = [node for node in nodes if isinstance(node, ast.ClassDef)]
        self.methods = {each.name for node in classes for each in node.body if isinstance(each, ast.FunctionDef)}
        self.attributes = {node.attr for node in nodes if isinstance(node, ast.Attribute)
                           and isinstance(node.ctx, ast.Store)}
        self.errors = {node.name for node in classes if node.bases}
        # The functions at the module level of some file, by names that nothing else that is defined has.
        functions = [node for tree in self.trees.values() for node in tree.body if isinstance(node, ast.FunctionDef)]
        names = [node.name for node in nodes if isinstance(node, ast.FunctionDef)]
        names += [node.arg for node in nodes if isinstance(node, ast.arg)]
        self.parameters = {node.name: told_parameters(node) for node in functions if names.count(node.name) == 1}

    def read(self):
        names = sorted(name for name in os.listdir(self.folder) if name != "__pycache__")
        if "__init__.py" not in names or len(names) > 100:
            self.found.append(f"{self.folder}: L14 no __init__.py, or more than 100 files")
        for name in names:
            file = name[:-3]
            is_barred = file in NOWHERE | NO_NAMES | NO_WORDS | set(LIBRARY) or file in BUILTINS
            is_plain = re.fullmatch(r"[a-z][a-z0-9_]*", file) and not NO_FILES.match(file) and not is_barred
            if not name.endswith(".py") or not (is_plain or file == "__init__"):
                self.found.append(f"{self.folder}/{name}: L1/L14 a file of another kind or name")
            else:
                with open(os.path.join(self.folder, name), encoding="utf-8", newline="") as file_read:
                    self.texts[file] = file_read.read()

    def check(self):
        found = list(self.found)
        for file, text in sorted(self.texts.items()):
            found.extend(Checker(f"{self.folder}/{file}.py", text, self).check())
        return found + self.check_cycles()

    def check_cycles(self):
        uses = {file: {node.module.partition(".")[2] for node in tree.body if isinstance(node, ast.ImportFrom)}
                for file, tree in self.trees.items()}
        found = []
        for file in sorted(uses):
            reached, left = set(), list(uses[file])
            while left:
                other = left.pop()
                if other not in reached:
                    reached.add(other)
                    left.extend(uses.get(other, ()))
            if file in reached:
                found.append(f"{self.folder}/{file}.py: L16 a file that imports from itself through others")
        return found


def defined_names(node):
    if isinstance(node, (ast.FunctionDef, ast.ClassDef)):
        return [node.name]
    return [each.id for each in getattr(node, "targets", []) if isinstance(each, ast.Name)]


def told_parameters(function):
    """The names of the parameters of a function, and of those that have no default value."""
    names = [each.arg for each in function.args.args]
    return names, names[:len(names) - len(function.args.defaults)]


def iterated(value):
    """What a loop over this value goes over, as it is written: names and attributes, also within zip and its like."""
    if isinstance(value, (ast.Name, ast.Attribute)):
        return [ast.unparse(value)]
    if isinstance(value, ast.IfExp):
        return iterated(value.body) + iterated(value.orelse)
    if isinstance(value, ast.BoolOp):
        return [name for each in value.values for name in iterated(each)]
    if isinstance(value, ast.Call) and isinstance(value.func, ast.Name) and value.func.id in AT_ONCE - {"range"}:
        return [name for each in value.args for name in iterated(each)]
    if isinstance(value, ast.Call) and isinstance(value.func, ast.Attribute) and value.func.attr in VIEWS:
        return iterated(value.func.value)
    return []


def is_len(value):
    return isinstance(value, ast.Call) and isinstance(value.func, ast.Name) and value.func.id == "len"


def is_set(value):
    if isinstance(value, (ast.Set, ast.SetComp)):
        return True
    return isinstance(value, ast.Call) and isinstance(value.func, ast.Name) and value.func.id == "set"


def own_nodes(function):
    """The nodes of a function without those of the functions that are nested in it."""
    left = list(function.body)
    while left:
        node = left.pop()
        yield node
        if not isinstance(node, ast.FunctionDef):
            left.extend(ast.iter_child_nodes(node))


def check(folder):
    """What breaks a rule in the package in this folder: a list of lines."""
    return Package(folder).check()


if __name__ == "__main__":
    lines = check(sys.argv[1])
    print("\n".join(lines) if lines else f"language of {sys.argv[1]}: nothing found")
    sys.exit(1 if lines else 0)
