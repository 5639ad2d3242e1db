"""Looks at source code for what ../shared/LANGUAGE.md does not allow, as far as this can be seen with little effort.

`faults_of` is given the texts of the files of a package, and returns what it finds as texts "L8 file.py:3 why".
"""

import ast
import builtins
import re

BUILTINS = set(
    "len range enumerate zip min max sum abs sorted reversed int str bool bytes list tuple dict set frozenset isinstance "
    "ord repr any all divmod pow getattr hasattr setattr iter next map super object float property staticmethod "
    "classmethod Exception ValueError TypeError KeyError IndexError LookupError ZeroDivisionError ArithmeticError "
    "OverflowError RuntimeError NotImplementedError AttributeError StopIteration NotImplemented".split())
LIBRARY = {
    "heapq": {"heappush", "heappop", "heapify", "heapreplace", "heappushpop"},
    "math": {"gcd", "lcm", "isqrt", "comb", "perm", "factorial"},
    "itertools": {"product", "combinations", "permutations", "chain", "accumulate", "pairwise", "islice",
                  "zip_longest"},
    "collections": {"defaultdict"},
    "__future__": {"annotations"},
}
STATEMENTS = (
    ast.Assign, ast.AugAssign, ast.If, ast.While, ast.For, ast.Return, ast.Break, ast.Continue, ast.Pass, ast.Raise,
    ast.Assert, ast.Delete, ast.Nonlocal, ast.Match, ast.With, ast.Try, ast.Expr, ast.FunctionDef, ast.ClassDef,
    ast.ImportFrom)
METHODS = set(
    "append clear copy count endswith extend find get index insert isalnum isalpha isdigit islower isspace isupper items "
    "join keys ljust lower lstrip partition pop remove replace reverse rfind rjust rpartition rsplit rstrip setdefault "
    "split splitlines startswith strip update upper values zfill bit_length title capitalize swapcase casefold center "
    "expandtabs removeprefix removesuffix rindex isascii isdecimal isnumeric istitle isidentifier isprintable encode "
    "decode hex translate sort format add discard".split())
DOUBLE = set(
    "__init__ __eq__ __repr__ __str__ __len__ __enter__ __exit__ __call__ __iter__ __lt__ __le__ __gt__ __ge__ __ne__ "
    "__add__ __sub__ __mul__ __bool__ __contains__ __getitem__ __setitem__ __neg__".split())
NOWHERE = set("register mro elements open input law version_info with_traceback add_note".split())
NO_NAMES = set(
    "attrgetter breakpoint builtins compile copyright credits delattr dir eval exec exit gc globals help id importlib "
    "license locals methodcaller os quit type vars sys".split())
NO_WORDS = (
    "type typing typing_extensions enum Enum IntEnum StrEnum Flag IntFlag Generic Protocol ABC ABCMeta namedtuple "
    "NamedTuple TypedDict TYPE_CHECKING abstractmethod").split()
NO_ATTRIBUTES = set(
    "items keys values pop update append clear extend insert remove reverse setdefault sort args encode decode hex "
    "fromhex format as_integer_ratio bit_count conjugate from_bytes is_integer to_bytes format_map mro".split())
FREE_METHODS = set(
    "append clear copy count endswith extend find get index insert isalnum isalpha isdigit islower isspace isupper items "
    "join keys ljust lower lstrip partition pop remove replace reverse rfind rjust rpartition rsplit rstrip setdefault "
    "split splitlines startswith strip update upper values zfill bit_length add discard".split())
NO_PREFIXES = ("_wall", "_pe_", "_dcw_", "_enum_", "_cm_", "_twin_re_", "_lay_", "_law_", "_stub_", "_sre", "_WallAttr")
CAUGHT = {"KeyError", "ZeroDivisionError", "StopIteration", "ValueError", "LookupError", "IndexError"}
AT_ONCE = {"zip", "enumerate", "reversed", "map"}
TAKES_AT_ONCE = {"list", "tuple", "dict", "sorted", "sum", "any", "all", "enumerate", "zip", "min", "max"}
KEYWORDS = {"sorted": {"key", "reverse"}, "min": {"key", "default"}, "max": {"key", "default"}, "sum": {"start"},
            "enumerate": {"start"}, "zip": {"strict"}}
PYTHON_NAMES = set(dir(builtins))
BUILTIN_METHODS = {name for kind in (str, int, list, dict, set, bytes, tuple) for name in dir(kind)}


class Package:
    """What all files of a package bind, and what is found in them."""

    def __init__(self, name, files):
        self.name = name
        self.files = files
        self.found = []
        self.trees = {}
        self.bound = {}
        for file, text in files.items():
            try:
                self.trees[file] = ast.parse(text)
            except SyntaxError as error:
                self.say("L0", file, error.lineno, "it is not Python")
        for file, tree in self.trees.items():
            self.bound[file] = list(names_bound_by(tree.body))
        classes = [node for tree in self.trees.values() for node in tree.body if isinstance(node, ast.ClassDef)]
        self.errors = {node.name for node in classes}
        self.methods = {row.name for node in classes for row in node.body if isinstance(row, ast.FunctionDef)}

    def say(self, rule, file, line, why):
        self.found.append(f"{rule} {file}:{line} {why}")

    def look(self):
        for file in self.files:
            self.look_at_text(file)
            if file in self.trees:
                Looker(self, file).look()
        self.look_at_rings()
        return self.found

    def look_at_text(self, file):
        lines = self.files[file].split("\n")
        if not re.fullmatch(r"[a-z0-9_]+\.py", file):
            self.say("L14", file, 0, "the name of a file")
        if len(lines) > 400 or len(lines) == 400 and lines[-1]:
            self.say("L10", file, 400, "more than 399 lines")
        for k, line in enumerate(lines, start=1):
            if len(line) > 120:
                self.say("L10", file, k, "more than 120 characters")
            if "\t" in line:
                self.say("L10", file, k, "a tab")
            if any(not " " <= sign <= "~" for sign in line.replace("\t", "")):
                self.say("L14", file, k, "another character")

    def look_at_rings(self):
        imports = {}
        for file, tree in self.trees.items():
            names = [row.module for row in tree.body if isinstance(row, ast.ImportFrom)]
            imports[file] = [name.split(".")[-1] + ".py" for name in names if name and name.startswith(self.name)]
        for start in imports:
            seen, rest = set(), list(imports[start])
            while rest:
                file = rest.pop()
                if file not in seen:
                    seen.add(file)
                    rest.extend(imports.get(file, ()))
            if start in seen:
                self.say("L16", start, 1, "files import from each other")


def names_bound_by(body):
    for row in body:
        if isinstance(row, (ast.FunctionDef, ast.ClassDef)):
            yield row.name, row
        elif isinstance(row, ast.ImportFrom):
            for alias in row.names:
                yield alias.asname or alias.name, row
        elif isinstance(row, ast.Assign):
            for target in row.targets:
                if isinstance(target, ast.Name):
                    yield target.id, row


class Looker:
    """Looks at one file; the method look_at_call looks at each node of the class Call, and so on."""

    def __init__(self, package, file):
        self.package = package
        self.file = file
        self.tree = package.trees[file]
        self.parents = {child: node for node in ast.walk(self.tree) for child in ast.iter_child_nodes(node)}
        names = [name for name, _ in package.bound[file]]
        self.top = set(names)
        self.fixed = {name for name, row in package.bound[file] if isinstance(row, (ast.ImportFrom, ast.ClassDef))}

    def say(self, rule, node, why):
        self.package.say(rule, self.file, getattr(node, "lineno", 0), why)

    def look(self):
        self.look_at_top()
        self.look_at_strings()
        for node in ast.walk(self.tree):
            if isinstance(node, ast.stmt) and not isinstance(node, STATEMENTS):
                self.say("L6", node, f"a statement {node.__class__.__name__}")
            if isinstance(node, (ast.Await, ast.AnnAssign)) or getattr(node, "annotation", None):
                self.say("L21", node, "an annotation")
            look = getattr(self, "look_at_" + node.__class__.__name__.lower(), None)
            if look is not None:
                look(node)

    def look_at_top(self):
        place = 0
        names = {}
        for k, row in enumerate(self.tree.body):
            if isinstance(row, ast.Expr) and k == 0 and isinstance(row.value, ast.Constant):
                continue
            if isinstance(row, ast.ImportFrom):
                if place:
                    self.say("L2", row, "an import that does not stand at the top")
            elif isinstance(row, ast.Import):
                self.say("L2", row, "a module is imported as a name")
            elif isinstance(row, (ast.FunctionDef, ast.ClassDef)):
                place = 1
            elif isinstance(row, ast.Assign):
                place = 1
                if len(row.targets) != 1 or not isinstance(row.targets[0], ast.Name) or not self.is_plain(row.value):
                    self.say("L3", row, "no name with a plain value")
            else:
                self.say("L3", row, "a statement at module level")
        for name, row in self.package.bound[self.file]:
            if name in names:
                self.say("L15", row, f"{name} is bound twice")
            names[name] = True

    def is_plain(self, value, depth=0):
        if isinstance(value, ast.Constant):
            return value.value is not Ellipsis
        if isinstance(value, ast.UnaryOp):
            return isinstance(value.op, ast.USub) and self.is_plain(value.operand)
        if isinstance(value, ast.BinOp):
            return self.is_plain(value.left) and self.is_plain(value.right)
        if isinstance(value, ast.Name):
            return value.id in self.top
        if isinstance(value, ast.Tuple):
            return all(self.is_plain(part, depth) for part in value.elts)
        if isinstance(value, ast.List):
            return depth == 0 and all(self.is_plain(part, 1) for part in value.elts)
        if isinstance(value, ast.Dict):
            return depth == 0 and all(
                key is not None and self.is_plain(key, 1) for key in value.keys) and all(
                self.is_plain(part, 1) for part in value.values)
        return False

    def docstrings(self):
        for node in ast.walk(self.tree):
            if isinstance(node, (ast.Module, ast.FunctionDef, ast.ClassDef)) and node.body:
                first = node.body[0]
                if isinstance(first, ast.Expr) and isinstance(first.value, ast.Constant):
                    yield first.value

    def look_at_strings(self):
        docstrings = list(self.docstrings())
        for node in ast.walk(self.tree):
            if isinstance(node, ast.Constant) and isinstance(node.value, str):
                if "%" in node.value:
                    self.say("L27", node, "the character % in a string")
                if node.value.startswith("__") and node.value.endswith("__") and node.value != "__main__":
                    self.say("L27", node, "a string between underscores")
                if node.value.endswith("._") or node.value.endswith(".__"):
                    self.say("L27", node, "a string that ends in ._")
                words = re.findall(r"\w+", node.value)
                if node not in docstrings and any(word in NO_WORDS and word != "type" for word in words):
                    self.say("L17", node, "a word that does not stand in strings")
        text = self.package.files[self.file]
        for k, line in enumerate(text.split("\n"), start=1):
            for escape in re.findall(r"\\(.)", line.replace("\\\\", "")):
                if escape not in "nt\"'":
                    self.package.say("L27", self.file, k, "another escape")
            if "_wall" in line or "_WallAttr" in line:
                self.package.say("L12", self.file, k, "a word that stands nowhere")

    def look_at_importfrom(self, node):
        if node.level or any(alias.name == "*" for alias in node.names):
            self.say("L2", node, "an import by a dot or a star")
            return
        prefix = self.package.name + "."
        if node.module in LIBRARY:
            for alias in node.names:
                if alias.name not in LIBRARY[node.module] or alias.asname:
                    self.say("L2", node, f"{alias.name} from {node.module}")
        elif not node.module.startswith(prefix) or node.module[len(prefix):] + ".py" not in self.package.files:
            self.say("L2", node, f"an import from {node.module}")
        else:
            bound = dict(self.package.bound.get(node.module[len(prefix):] + ".py", ()))
            for alias in node.names:
                if alias.name not in bound or isinstance(bound[alias.name], ast.ImportFrom):
                    self.say("L16", node, f"{alias.name} is not defined there")

    def look_at_import(self, node):
        self.say("L2", node, "an import without from")

    def look_at_functiondef(self, node):
        if node.end_lineno - node.lineno + 1 > 40:
            self.say("L10", node, "a function of more than 40 lines")
        parent = self.parents[node]
        for decorator in node.decorator_list:
            if not isinstance(parent, ast.ClassDef) or ast.unparse(decorator) not in (
                    "property", "staticmethod", "classmethod", f"{node.name}.setter"):
                self.say("L4", node, "a decorator")
        for value in node.args.defaults + [value for value in node.args.kw_defaults if value is not None]:
            if isinstance(value, (ast.List, ast.Dict, ast.Set, ast.Call)):
                self.say("L4", node, "a default value that is not plain")
        if node.returns is not None:
            self.say("L21", node, "an annotation")
        if node.name.startswith("__") and (node.name not in DOUBLE or not isinstance(parent, ast.ClassDef)):
            self.say("L5", node, node.name)
        if node.name == "__init__" and any(isinstance(row, ast.Return) for row in ast.walk(node)):
            self.say("L28", node, "__init__ returns")
        self.look_at_name(node, node.name, isinstance(parent, ast.ClassDef))
        if not isinstance(parent, ast.ClassDef) and node.name in PYTHON_NAMES:
            self.say("L15", node, f"{node.name} is the name of a builtin")
        if isinstance(parent, ast.ClassDef) and node.name in BUILTINS:
            self.say("L8", node, f"{node.name} is the name of a builtin")
        if isinstance(parent, ast.ClassDef) and not node.name.startswith("__"):
            if node.name in BUILTIN_METHODS - FREE_METHODS:
                self.say("L26", node, f"a method {node.name}")
            if node.name in ("add", "discard"):
                self.say("L24", node, "sets that are stored have a method of this name")

    def look_at_classdef(self, node):
        if node.decorator_list:
            self.say("L5", node, "a decorator")
        if not isinstance(self.parents[node], ast.Module):
            self.say("L15", node, "a class that is not at module level")
        if node.name in PYTHON_NAMES:
            self.say("L15", node, f"{node.name} is the name of a builtin")
        methods = [row.name for row in node.body if isinstance(row, ast.FunctionDef)]
        stored = {row.attr for row in ast.walk(node) if isinstance(row, ast.Attribute)
                  and isinstance(row.ctx, ast.Store)}
        if len(set(methods)) < len(methods) or stored & set(methods):
            self.say("L18", node, "a name that is defined twice")
        self.look_at_name(node, node.name, False)

    def look_at_arg(self, node):
        self.look_at_local(node, node.arg)

    def look_at_name(self, node, name=None, is_method=False):
        loads = name is None and isinstance(node.ctx, ast.Load)
        stores = name is None and isinstance(node.ctx, ast.Store)
        name = node.id if name is None else name
        if not name.isascii() or name.startswith(NO_PREFIXES) or name.startswith("__") and name not in DOUBLE:
            self.say("L12", node, name)
        if name in NOWHERE or name in NO_NAMES:
            self.say("L17", node, name)
        if name in NO_WORDS:
            self.say("L17", node, name)
        if name == "_" and loads:
            self.say("L12", node, "_ is read")
        if stores and not isinstance(self.parents[node], ast.Assign) or stores and self.function_around(node):
            self.look_at_local(node, name)
        if loads and name not in self.top and not self.is_local(node, name) and name not in BUILTINS:
            self.say("L8", node, f"{name} is no name of the package and no builtin that is allowed")

    def look_at_local(self, node, name):
        if name in self.fixed:
            self.say("L15", node, f"{name} is the name of a class or an import")
        if name in PYTHON_NAMES:
            self.say("L15", node, f"{name} is the name of a builtin")
        if name in NOWHERE or name in NO_NAMES:
            self.say("L17", node, name)

    def function_around(self, node):
        while node in self.parents:
            node = self.parents[node]
            if isinstance(node, (ast.FunctionDef, ast.Lambda)):
                return node
        return None

    def is_local(self, node, name):
        around = self.function_around(node)
        while around is not None:
            for row in ast.walk(around):
                if isinstance(row, ast.arg) and row.arg == name:
                    return True
                if isinstance(row, ast.Name) and isinstance(row.ctx, ast.Store) and row.id == name:
                    return True
                if isinstance(row, (ast.FunctionDef, ast.ExceptHandler)) and row.name == name:
                    return True
            around = self.function_around(around)
        return False

    def look_at_attribute(self, node):
        if node.attr in NOWHERE:
            self.say("L17", node, node.attr)
        if isinstance(node.ctx, ast.Store) and node.attr in NO_ATTRIBUTES:
            self.say("L26", node, f"an attribute {node.attr}")
        if node.attr.startswith("__") and node.attr not in DOUBLE:
            self.say("L8", node, node.attr)
        if node.attr in self.package.methods and not self.is_called(node) and not self.is_key(node):
            self.say("L25", node, f"the method {node.attr} is not called where it stands")

    def is_called(self, node):
        parent = self.parents[node]
        return isinstance(parent, ast.Call) and parent.func is node

    def is_key(self, node):
        parent = self.parents[node]
        return isinstance(parent, ast.keyword) and parent.arg == "key"

    def look_at_call(self, node):
        function = node.func
        stars = [k for k, arg in enumerate(node.args) if isinstance(arg, ast.Starred)]
        for k in stars:
            if not isinstance(node.args[k].value, (ast.Name, ast.Attribute)):
                self.say("L7", node, "a star over what has no name")
        for arg in node.args[stars[0] + 1:] if stars else ():
            if not isinstance(arg, (ast.Name, ast.Attribute, ast.Constant, ast.List, ast.Tuple, ast.Dict, ast.Starred)):
                self.say("L7", node, "what stands behind a star")
        if isinstance(function, ast.Attribute):
            if function.attr not in METHODS | self.package.methods:
                self.say("L25", node, f"a method {function.attr}")
            elif function.attr not in self.package.methods and node.keywords and function.attr != "sort":
                self.say("L25", node, "a keyword of a builtin method")
        elif isinstance(function, ast.Name):
            if function.id in BUILTINS and function.id not in self.top:
                for keyword in node.keywords:
                    if keyword.arg not in KEYWORDS.get(function.id, ()):
                        self.say("L22", node, f"a keyword of {function.id}")
            if function.id in AT_ONCE:
                self.look_at_iterated(node)
            if function.id in ("set", "frozenset"):
                self.look_at_set(node)
        elif isinstance(function, ast.Constant):
            self.say("L7", node, "a literal is called")

    def look_at_iterated(self, node):
        parent = self.parents[node]
        taken = isinstance(parent, ast.Call) and isinstance(parent.func, ast.Name) and parent.func.id in TAKES_AT_ONCE
        if not (taken or isinstance(parent, (ast.For, ast.comprehension, ast.Assign))):
            self.say("L23", node, "it is not iterated at once")

    def look_at_set(self, node):
        parent = self.parents[node]
        taken = isinstance(parent, ast.Call) and isinstance(parent.func, ast.Name) and parent.func.id in ("sorted", "len")
        if not (taken or isinstance(parent, (ast.Compare, ast.Assign, ast.BinOp))):
            self.say("L24", node, "a set where none may stand")
        numbers = [part for part in getattr(node, "elts", ()) if isinstance(getattr(part, "value", None), int)]
        if len(numbers) > 2:
            self.say("L13", node, "a set with three or more integers")

    def look_at_setcomp(self, node):
        self.look_at_set(node)

    def look_at_for(self, node):
        if isinstance(node.iter, (ast.Set, ast.SetComp)):
            self.say("L24", node, "a set is iterated")
        names = {row.id for row in ast.walk(node.iter) if isinstance(row, ast.Name)
                 and not isinstance(self.parents[row], ast.Attribute) and not self.is_copied(row)}
        for row in node.body:
            for part in ast.walk(row):
                if isinstance(part, ast.Call) and isinstance(part.func, ast.Attribute) \
                        and part.func.attr in ("append", "pop", "extend", "insert", "remove", "clear", "update") \
                        and isinstance(part.func.value, ast.Name) and part.func.value.id in names:
                    self.say("L23", part, "what a loop iterates over is modified")

    def is_copied(self, node):
        parent = self.parents[node]
        return isinstance(parent, ast.Call) and isinstance(parent.func, ast.Name) and parent.func.id in (
            "list", "sorted", "range", "tuple", "len")

    def look_at_generatorexp(self, node):
        parent = self.parents[node]
        named = isinstance(parent, ast.Call) and isinstance(parent.func, ast.Name) and parent.func.id in (
            "list", "tuple", "dict", "sorted", "sum", "min", "max", "any", "all")
        joined = isinstance(parent, ast.Call) and isinstance(parent.func, ast.Attribute) and parent.func.attr == "join"
        if not (named or joined):
            self.say("L7", node, "a generator expression")
        self.look_at_comprehension_place(node)

    def look_at_listcomp(self, node):
        self.look_at_comprehension_place(node)

    def look_at_dictcomp(self, node):
        self.look_at_comprehension_place(node)

    def look_at_comprehension_place(self, node):
        if self.function_around(node) is None:
            self.say("L7", node, "a comprehension outside of functions")

    def look_at_namedexpr(self, node):
        row = node
        while isinstance(row, ast.expr):
            row = self.parents[row]
        if not isinstance(row, (ast.If, ast.While, ast.comprehension)):
            self.say("L7", node, ":=")

    def look_at_constant(self, node):
        if isinstance(node.value, (float, complex)):
            self.say("L7", node, "a float")

    def look_at_binop(self, node):
        if isinstance(node.op, (ast.Div, ast.MatMult)):
            self.say("L7", node, "an operator")
        if isinstance(node.op, ast.Pow) and not isinstance(node.right, ast.Constant):
            self.say("L27", node, "an exponent")

    def look_at_augassign(self, node):
        if isinstance(node.op, (ast.Div, ast.MatMult)):
            self.say("L7", node, "an operator")

    def look_at_compare(self, node):
        for operator, right in zip(node.ops, node.comparators):
            if isinstance(operator, (ast.Is, ast.IsNot)):
                sides = [row.value for row in (node.left, right) if isinstance(row, ast.Constant)]
                if not any(side in (None, True, False) for side in sides):
                    self.say("L20", node, "is")

    def look_at_excepthandler(self, node):
        kinds = node.type.elts if isinstance(node.type, ast.Tuple) else [node.type]
        for kind in kinds:
            if not isinstance(kind, ast.Name) or kind.id not in CAUGHT | self.package.errors:
                self.say("L19", node, "an error that is not caught")

    def look_at_raise(self, node):
        if node.exc is not None:
            if not isinstance(node.exc, ast.Call) or not isinstance(node.exc.func, ast.Name):
                self.say("L19", node, "an error that is not created on the spot")


def faults_of(files, name="everytick"):
    """What is found in the files of a package, given as a dict from their names to their texts."""
    return Package(name, files).look()
