"""../shared/LANGUAGE.md, held against the files of a package.

faults(sources) takes the text of each file by its path ("timesrow/errors.py") and tells each break as
(rule, path, line, words). It is narrower than the rules: what they allow only under conditions and the program does not
use (sets, bytes, generators, decorators, nested functions, match, with and so on) is refused whole, by the rule that
has the conditions. Where the program comes to need such a thing, its conditions are to be looked at here first.
"""

import ast
import builtins
import re
import sys
import warnings

LISTED = """append clear copy count endswith extend find get index insert isalnum isalpha isdigit islower isspace
    isupper items join keys ljust lower lstrip partition pop remove replace reverse rfind rjust rpartition rsplit rstrip
    setdefault split splitlines startswith strip update upper values zfill bit_length""".split()
# How many arguments each takes: the least and the most number.
METHODS = {name: (0, 0) for name in LISTED}
METHODS.update({name: (1, 1) for name in "append extend join partition rpartition remove update zfill".split()})
METHODS.update({name: (1, 3) for name in "count endswith find index rfind startswith".split()})
METHODS.update({name: (1, 2) for name in "get ljust rjust setdefault".split()})
METHODS.update({name: (0, 1) for name in "lstrip rstrip strip splitlines".split()})
METHODS.update({"insert": (2, 2), "pop": (0, 2), "replace": (2, 3), "split": (0, 2), "rsplit": (0, 2)})
FUNCTIONS = {name: (1, 1) for name in "len enumerate abs sorted reversed ord repr any all".split()}
FUNCTIONS.update({name: (0, 1) for name in "str bool list tuple dict".split()})
FUNCTIONS.update({"int": (0, 2), "range": (1, 3), "sum": (1, 2), "isinstance": (2, 2), "divmod": (2, 2),
                  "zip": (1, 99), "min": (1, 99), "max": (1, 99)})
KEYWORDS = {"sorted": ("key", "reverse"), "min": ("key", "default"), "max": ("key", "default"), "sum": ("start",),
            "enumerate": ("start",), "zip": ("strict",)}
ERRORS = set("""Exception ValueError TypeError KeyError IndexError LookupError ZeroDivisionError ArithmeticError
    OverflowError RuntimeError NotImplementedError""".split())
KINDS = set("int str bool bytes list tuple dict".split())
KEYS = set("len int str abs sum min max tuple".split())
AT_ONCE = {"zip", "enumerate", "reversed", "range"}
AT_ONCE_METHODS = {"items", "keys", "values"}
TAKERS = {"list", "tuple", "dict", "sorted", "sum", "any", "all", "enumerate", "zip"}
CHANGERS = {"append", "clear", "extend", "insert", "pop", "remove", "reverse", "setdefault", "update", "sort"}
OWN_METHODS_TOO = set(LISTED) | {"add", "discard"}
OWN_ATTRIBUTES_TOO = set("count index title find get join lower upper split strip copy add".split())
OF_VALUES = {name for kind in (str, int, list, dict, set, bytes) for name in dir(kind)}

NOWHERE = re.compile(r"\b(type|typing|typing_extensions|enum|Enum|IntEnum|StrEnum|Flag|IntFlag|Generic|Protocol|ABC"
                     r"|ABCMeta|namedtuple|NamedTuple|TypedDict|TYPE_CHECKING|abstractmethod)\b"
                     r"|dataclass|overload|contextmanager")
UNUSED = set("""register mro elements open input version_info with_traceback add_note attrgetter breakpoint builtins
    compile copyright credits delattr dir eval exec exit gc getattr globals hasattr help id importlib license locals
    methodcaller os quit setattr super type vars sys format format_map args""".split())
FRAMES = re.compile(r"(f|tb|co|gi|cr|ag)_[a-z]+\Z")
NO_FILES = {"test", "tests", "testing", "site", "conftest", "sitecustomize", "usercustomize"}

STATEMENTS = (ast.FunctionDef, ast.ClassDef, ast.Return, ast.Assign, ast.AugAssign, ast.For, ast.While, ast.If,
              ast.Raise, ast.Try, ast.Expr, ast.Pass, ast.Break, ast.Continue, ast.ImportFrom)
EXPRESSIONS = (ast.BoolOp, ast.BinOp, ast.UnaryOp, ast.Lambda, ast.IfExp, ast.Dict, ast.ListComp, ast.DictComp,
               ast.GeneratorExp, ast.Compare, ast.Call, ast.JoinedStr, ast.FormattedValue, ast.Constant, ast.Attribute,
               ast.Subscript, ast.Name, ast.List, ast.Tuple, ast.Slice)
OPERATORS = (ast.And, ast.Or, ast.Add, ast.Sub, ast.Mult, ast.FloorDiv, ast.Mod, ast.Pow, ast.LShift, ast.RShift,
             ast.BitAnd, ast.BitOr, ast.BitXor, ast.Not, ast.USub, ast.Invert, ast.Eq, ast.NotEq, ast.Lt, ast.LtE,
             ast.Gt, ast.GtE, ast.Is, ast.IsNot, ast.In, ast.NotIn)
REST = (ast.Module, ast.Load, ast.Store, ast.arguments, ast.arg, ast.keyword, ast.alias, ast.comprehension,
        ast.ExceptHandler)
ALLOWED = STATEMENTS + EXPRESSIONS + OPERATORS + REST
REFUSED_BY = {"Import": "L16", "AnnAssign": "L21", "Set": "L24", "SetComp": "L24", "Yield": "L23", "YieldFrom": "L23",
              "Starred": "L7", "NamedExpr": "L7", "Div": "L7", "MatMult": "L7"}
COMPREHENSIONS = (ast.ListComp, ast.DictComp, ast.GeneratorExp)


def is_named(node, names):
    return isinstance(node, ast.Name) and node.id in names


def is_plain_constant(node):
    """A whole number, also a negative one, a text, True, False or None."""
    if isinstance(node, ast.UnaryOp) and isinstance(node.op, ast.USub):
        return isinstance(node.operand, ast.Constant) and type(node.operand.value) is int
    return isinstance(node, ast.Constant) and type(node.value) in (int, str, bool, type(None))


def is_text(node):
    return isinstance(node, ast.JoinedStr) or isinstance(node, ast.Constant) and isinstance(node.value, str)


def is_docstring(node):
    return isinstance(node, ast.Expr) and isinstance(node.value, ast.Constant) and isinstance(node.value.value, str)


def inside(node):
    """All nodes below a node, not itself."""
    return [below for child in ast.iter_child_nodes(node) for below in ast.walk(child)]


def parsed(text):
    """The tree of a text, or None where it is no Python; what Python warns of is looked at elsewhere."""
    try:
        with warnings.catch_warnings():
            warnings.simplefilter("ignore")
            return ast.parse(text)
    except (SyntaxError, ValueError):
        return None


class Module:
    """One file: its tree and what it binds at module level."""

    def __init__(self, path, text):
        self.path = path
        self.name = path.removesuffix(".py").removesuffix("/__init__").replace("/", ".")
        self.tree = parsed(text)
        self.parents = {child: node for node in ast.walk(self.tree) for child in ast.iter_child_nodes(node)}
        self.functions, self.classes, self.values, self.imports, self.bound = {}, {}, {}, {}, []
        for node in self.tree.body:
            self.bind(node)

    def bind(self, node):
        if isinstance(node, (ast.FunctionDef, ast.ClassDef)):
            (self.functions if isinstance(node, ast.FunctionDef) else self.classes)[node.name] = node
            self.bound.append((node.name, node))
        elif isinstance(node, ast.Assign):
            for target in node.targets:
                if isinstance(target, ast.Name):
                    self.values[target.id] = node.value
                    self.bound.append((target.id, node))
        elif isinstance(node, ast.ImportFrom):
            for alias in node.names:
                self.imports[alias.name] = node.module
                self.bound.append((alias.name, node))

    def around(self, node, kinds):
        """The nearest node of these kinds around a node, or None."""
        node = self.parents.get(node)
        while node is not None and not isinstance(node, kinds):
            node = self.parents.get(node)
        return node


class Checker:
    def __init__(self, sources):
        self.sources = sources
        self.found = []
        self.modules = {}

    def fault(self, rule, path, node, words):
        self.found.append((rule, path, getattr(node, "lineno", 0), words))

    def check(self):
        self.check_paths()
        for path, text in sorted(self.sources.items()):
            self.check_text(path, text)
        if any(parsed(text) is None for text in self.sources.values()):
            return self.found
        modules = [Module(path, text) for path, text in sorted(self.sources.items())]
        self.modules = {module.name: module for module in modules}
        self.collect()
        for module in modules:
            self.check_module(module)
        self.check_names_of_classes()
        self.check_circles()
        return self.found

    def check_paths(self):
        if len(self.sources) > 100:
            self.fault("L14", "", None, "more than 100 files")
        folders = {path.rpartition("/")[0] for path in self.sources}
        folders |= {folder.rpartition("/")[0] for folder in folders if "/" in folder}
        for folder in folders:
            if folder + "/__init__.py" not in self.sources:
                self.fault("L14", folder, None, "a folder without __init__.py")
            if folder + ".py" in self.sources:
                self.fault("L14", folder, None, "a file and a folder of one name")
        for path in self.sources:
            name = path.rpartition("/")[2]
            if not re.fullmatch(r"[a-z0-9_]+\.py", name):
                self.fault("L1", path, None, "not a plain name of a .py file")
            words = path.removesuffix(".py").removesuffix("/__init__").split("/")
            if words[0] in sys.stdlib_module_names:
                self.fault("L14", path, None, "a package with the name of a module of Python's own")
            for word in words:
                barred = word in NO_FILES or word.startswith(("law_", "test_")) or NOWHERE.fullmatch(word)
                if barred or hasattr(builtins, word):
                    self.fault("L14", path, None, "a name that no file has")

    def check_text(self, path, text):
        if not re.fullmatch(r"[ -~\n]*", text):
            self.fault("L14", path, None, "a sign beyond the blank to ~ and line ends")
        if NOWHERE.search(text):
            self.fault("L17", path, None, f"the word {NOWHERE.search(text).group()}")
        lines = text.splitlines()
        if len(lines) > 400 or max([len(line) for line in lines], default=0) > 120:
            self.fault("L10", path, None, "too many lines or too long a line")
        if "\\" in re.sub(r"\\[nt\\'\"]", "", text):
            self.fault("L27", path, None, "another escape, or a line that goes on")
        try:
            with warnings.catch_warnings():
                warnings.simplefilter("error")
                compile(text, path, "exec")
        except (SyntaxError, ValueError, Warning) as why:
            self.fault("L27", path, None, f"Python itself refuses it or warns: {why}")

    def collect(self):
        """What the package defines: classes, which are errors, methods, attributes."""
        self.classes = {}
        for module in self.modules.values():
            for name, node in module.classes.items():
                if name in self.classes:
                    self.fault("L15", module.path, node, f"a second class {name}")
                self.classes[name] = node
        self.methods, self.attributes = {}, set()
        for module in self.modules.values():
            for node in ast.walk(module.tree):
                if isinstance(node, ast.FunctionDef) and isinstance(module.parents[node], ast.ClassDef):
                    self.methods.setdefault(node.name, []).append(node)
                if isinstance(node, ast.Attribute) and isinstance(node.ctx, ast.Store):
                    self.attributes.add(node.attr)

    def line_of(self, name):
        """A class and what stands above it, by their names, as far as the package defines them."""
        line = []
        while name in self.classes and name not in line:
            line.append(name)
            bases = self.classes[name].bases
            name = bases[0].id if len(bases) == 1 and isinstance(bases[0], ast.Name) else ""
        return line + [name]

    def is_error(self, name):
        return name in self.classes and self.line_of(name)[-1] in ERRORS

    def maker(self, name):
        """The __init__ that making a class's object calls, or None."""
        for above in self.line_of(name):
            for node in self.classes[above].body if above in self.classes else []:
                if isinstance(node, ast.FunctionDef) and node.name == "__init__":
                    return node
        return None

    def value_of(self, module, name):
        """The value at module level that a name of a file stands for, or None."""
        if name in module.imports:
            module = self.modules.get(module.imports[name], module)
        return module.values.get(name)

    def function_of(self, module, name):
        if name in module.imports:
            module = self.modules.get(module.imports[name], module)
        return module.functions.get(name)

    def check_module(self, module):
        self.check_bound_once(module)
        self.check_module_level(module)
        for node in ast.walk(module.tree):
            if not isinstance(node, ALLOWED):
                kind = type(node).__name__
                self.fault(REFUSED_BY.get(kind, "L6"), module.path, node, f"{kind} is not used here")
            look = getattr(self, "look_" + type(node).__name__, None)
            if look is not None:
                look(module, node)

    def check_bound_once(self, module):
        names = [name for name, node in module.bound]
        for name, node in module.bound:
            self.check_name(module, name, node)
            if names.count(name) > 1:
                self.fault("L15", module.path, node, f"{name} is bound twice")

    def check_module_level(self, module):
        above, past_imports = set(), False
        for place, node in enumerate(module.tree.body):
            if place == 0 and is_docstring(node):
                continue
            if isinstance(node, ast.ImportFrom):
                if past_imports:
                    self.fault("L2", module.path, node, "an import below the top")
                continue
            past_imports = True
            if isinstance(node, ast.FunctionDef):
                above.add(node.name)
            elif isinstance(node, ast.Assign):
                one_name = len(node.targets) == 1 and isinstance(node.targets[0], ast.Name)
                if not one_name or not self.is_plain(node.value, above):
                    self.fault("L3", module.path, node, "not a name for a plain value")
            elif not isinstance(node, ast.ClassDef):
                self.fault("L3", module.path, node, "neither import, function, class nor value")
            if module.path.endswith("__init__.py"):
                self.fault("L16", module.path, node, "__init__.py holds its docstring alone")

    def is_plain(self, node, functions, deep=False):
        if isinstance(node, ast.Name):
            return deep and node.id in functions
        if isinstance(node, (ast.List, ast.Tuple)):
            if deep and isinstance(node, ast.List):
                return False
            return all(self.is_plain(part, functions, True) for part in node.elts)
        if isinstance(node, ast.Dict):
            return (not deep and all(key is not None and is_plain_constant(key) for key in node.keys)
                    and all(self.is_plain(part, functions, True) for part in node.values))
        return is_plain_constant(node)

    def check_name(self, module, name, node):
        if not re.fullmatch(r"[A-Za-z][A-Za-z0-9_]*", name):
            self.fault("L12", module.path, node, f"no plain name: {name}")
        if hasattr(builtins, name):
            self.fault("L15", module.path, node, f"a builtin's name: {name}")
        if name in UNUSED or FRAMES.match(name):
            self.fault("L17", module.path, node, f"a name that is not used: {name}")

    def check_local(self, module, name, node):
        self.check_name(module, name, node)
        if name in module.classes or name in module.imports:
            self.fault("L15", module.path, node, f"a local name of a class or an import: {name}")

    def look_ImportFrom(self, module, node):
        if node.level != 0 or node.module not in self.modules:
            return self.fault("L2", module.path, node, "not from a module of the package")
        if not isinstance(module.parents[node], ast.Module):
            self.fault("L2", module.path, node, "an import inside of something")
        there = self.modules[node.module]
        for alias in node.names:
            if alias.asname is not None or alias.name == "*":
                self.fault("L2", module.path, node, "an import of all, or under another name")
            if alias.name not in {**there.functions, **there.classes, **there.values}:
                self.fault("L16", module.path, node, f"{alias.name} is not defined in that file")

    def look_FunctionDef(self, module, node):
        around = module.parents[node]
        if not isinstance(around, (ast.Module, ast.ClassDef)):
            self.fault("L4", module.path, node, "a nested function")
        if node.decorator_list or getattr(node, "type_params", []):
            self.fault("L4", module.path, node, "a decorator or the like")
        if node.returns is not None:
            self.fault("L21", module.path, node, "an annotation")
        if node.end_lineno - node.lineno + 1 > 40:
            self.fault("L10", module.path, node, "more than 40 lines")
        if isinstance(around, ast.ClassDef):
            self.check_method(module, node)

    def check_method(self, module, node):
        if node.name != "__init__":
            if node.name.startswith("_"):
                return self.fault("L5", module.path, node, f"a method {node.name}")
            # A method may have a builtin's name, but not one that no method has.
            if node.name in UNUSED or FRAMES.match(node.name):
                self.fault("L17", module.path, node, f"a name that is not used: {node.name}")
        elif any(isinstance(below, ast.Return) and below.value is not None for below in ast.walk(node)):
            self.fault("L28", module.path, node, "__init__ returns something")
        if [argument.arg for argument in node.args.args][:1] != ["self"]:
            self.fault("L4", module.path, node, "a method without self")

    def look_arguments(self, module, node):
        if node.posonlyargs or node.kwonlyargs or node.vararg or node.kwarg:
            self.fault("L4", module.path, module.parents[node], "stars or / among the parameters")
        for default in node.defaults:
            if not is_plain_constant(default) or isinstance(module.parents[node], ast.Lambda):
                self.fault("L4", module.path, default, "a default that is not plain, or one of a lambda")

    def look_arg(self, module, node):
        self.check_local(module, node.arg, node)
        if node.annotation is not None:
            self.fault("L21", module.path, node, "an annotation")

    def look_Lambda(self, module, node):
        names = [argument.arg for argument in node.args.args]
        for other in ast.walk(module.tree):
            if isinstance(other, ast.Lambda) and other is not node and other.lineno == node.lineno:
                if [argument.arg for argument in other.args.args] == names:
                    self.fault("L13", module.path, node, "two lambdas of the same names on one line")

    def look_ClassDef(self, module, node):
        if not isinstance(module.parents[node], ast.Module):
            self.fault("L15", module.path, node, "a class that is not at module level")
        if node.decorator_list or node.keywords or len(node.bases) > 1 or getattr(node, "type_params", []):
            self.fault("L5", module.path, node, "decorators, keywords or several bases")
        for base in node.bases:
            own = is_named(base, module.imports) or is_named(base, module.classes)
            if own and base.id in module.classes and module.classes[base.id].lineno >= node.lineno:
                self.fault("L5", module.path, node, "a base that is not defined above")
            if not own and not is_named(base, ERRORS):
                self.fault("L5", module.path, node, "a base that is neither an own class nor an error")
        methods = [below.name for below in node.body if isinstance(below, ast.FunctionDef)]
        if len(set(methods)) < len(methods):
            self.fault("L18", module.path, node, "a method defined twice")
        for place, below in enumerate(node.body):
            if not isinstance(below, (ast.FunctionDef, ast.Pass)) and not (place == 0 and is_docstring(below)):
                self.fault("L5", module.path, below, "neither a docstring nor a method")

    def check_names_of_classes(self):
        for name in self.attributes:
            if name.startswith("_") or name in UNUSED or name in OF_VALUES - OWN_ATTRIBUTES_TOO:
                self.fault("L26", "", None, f"an attribute {name}")
            if name in self.methods:
                self.fault("L18", "", None, f"{name} is a method and an attribute")
        for name in self.methods:
            if name != "__init__" and name in OF_VALUES - OWN_METHODS_TOO:
                self.fault("L26", "", None, f"a method {name}")

    def look_Assign(self, module, node):
        for target in node.targets:
            self.check_target(module, target)

    def look_AugAssign(self, module, node):
        self.check_target(module, node.target)
        if isinstance(node.target, ast.Subscript) and isinstance(node.target.slice, ast.Slice):
            self.fault("L6", module.path, node, "+= on a slice")

    def look_For(self, module, node):
        self.check_names_only(module, node.target)
        self.check_unchanged(module, node.iter, node.body)

    def look_comprehension(self, module, node):
        self.check_names_only(module, node.target)
        around = module.parents[node]
        self.check_unchanged(module, node.iter, [around])

    def check_names_only(self, module, target):
        if isinstance(target, ast.Tuple):
            for part in target.elts:
                self.check_names_only(module, part)
        elif not isinstance(target, ast.Name):
            self.fault("L23", module.path, target, "a loop assigns to something that is no name")

    def check_target(self, module, target):
        if isinstance(target, ast.Tuple):
            for part in target.elts:
                self.check_target(module, part)
        elif isinstance(target, ast.Attribute):
            if not isinstance(target.value, ast.Name) or target.value.id not in self.locals_of(module, target):
                self.fault("L18", module.path, target, "an attribute of something that is no local name")
        elif not isinstance(target, (ast.Name, ast.Subscript)):
            self.fault("L6", module.path, target, "no target")

    def locals_of(self, module, node):
        """The names that the function around a node, and the lambdas in it, bind."""
        function = module.around(node, ast.FunctionDef)
        below = [] if function is None else list(ast.walk(function))
        stored = {one.id for one in below if isinstance(one, ast.Name) and isinstance(one.ctx, ast.Store)}
        return stored | {one.arg for one in below if isinstance(one, ast.arg)}

    def iterated(self, node):
        """What a loop goes through in the end, below zip, items and the like."""
        if isinstance(node, ast.Call) and is_named(node.func, AT_ONCE):
            return [part for argument in node.args for part in self.iterated(argument)]
        if isinstance(node, ast.Call) and isinstance(node.func, ast.Attribute) and node.func.attr in AT_ONCE_METHODS:
            return self.iterated(node.func.value)
        if isinstance(node, ast.IfExp):
            return self.iterated(node.body) + self.iterated(node.orelse)
        if isinstance(node, ast.BoolOp):
            return [part for value in node.values for part in self.iterated(value)]
        return [ast.dump(node)] if isinstance(node, (ast.Name, ast.Attribute, ast.Subscript)) else []

    def check_unchanged(self, module, iterated, body):
        through = set(self.iterated(iterated))
        for node in [below for one in body for below in ast.walk(one)]:
            if isinstance(node, ast.Subscript) and isinstance(node.ctx, ast.Store):
                changed = [node.value]
            elif isinstance(node, ast.AugAssign):
                # The target is read as well as set: as what is read it stands in the loop's head.
                changed = [ast.parse(ast.unparse(node.target), mode="eval").body]
            elif isinstance(node, ast.Call) and isinstance(node.func, ast.Attribute) and node.func.attr in CHANGERS:
                changed = [node.func.value]
            elif isinstance(node, ast.Call) and not is_named(node.func, FUNCTIONS):
                # What an own function does to what it is handed is not looked at here.
                changed = node.args + [keyword.value for keyword in node.keywords]
            else:
                continue
            if any(ast.dump(one) in through for one in changed):
                self.fault("L23", module.path, node, "a loop that may change what it goes through")

    def look_ListComp(self, module, node):
        if module.around(node, ast.FunctionDef) is None:
            self.fault("L7", module.path, node, "a comprehension outside of functions")
        if len(node.generators) > 6 or sum(len(one.ifs) for one in node.generators) > 12:
            self.fault("L7", module.path, node, "too long a comprehension")
        if any(one.is_async for one in node.generators):
            self.fault("L6", module.path, node, "async")

    look_DictComp = look_ListComp

    def look_GeneratorExp(self, module, node):
        self.look_ListComp(module, node)
        around = module.parents[node]
        takers = (TAKERS | {"min", "max"}) - {"enumerate", "zip"}
        alone = isinstance(around, ast.Call) and around.args == [node] and not around.keywords
        if not alone or not (is_named(around.func, takers) or self.joins_by_literal(around)):
            self.fault("L7", module.path, node, "a generator expression that is not taken on the spot")

    def joins_by_literal(self, call):
        return (isinstance(call.func, ast.Attribute) and call.func.attr == "join"
                and isinstance(call.func.value, ast.Constant))

    def look_Expr(self, module, node):
        around = module.parents[node]
        first = getattr(around, "body", [None])[0] is node
        headed = isinstance(around, (ast.Module, ast.ClassDef, ast.FunctionDef))
        if not isinstance(node.value, ast.Call) and not (first and headed and is_docstring(node)):
            self.fault("L6", module.path, node, "a statement that is no call")

    def look_Raise(self, module, node):
        if node.cause is not None:
            self.fault("L19", module.path, node, "raise .. from")
        if node.exc is None:
            if module.around(node, ast.ExceptHandler) is None:
                self.fault("L19", module.path, node, "a bare raise outside of a handler")
        elif not isinstance(node.exc, ast.Call) or not is_named(node.exc.func, filter(self.is_error, self.classes)):
            self.fault("L19", module.path, node, "not an own error, made on the spot")

    def look_Try(self, module, node):
        if node.finalbody:
            self.fault("L6", module.path, node, "finally")
        for handler in node.handlers:
            names = handler.type.elts if isinstance(handler.type, ast.Tuple) else [handler.type]
            free = {name for name in self.classes if self.is_error(name)} | {"KeyError", "ZeroDivisionError"}
            if handler.name is not None or not names or not all(is_named(name, free) for name in names):
                self.fault("L19", module.path, handler, "not an own error alone, without a name for it")

    def look_Compare(self, module, node):
        for sign, other in zip(node.ops, node.comparators):
            if isinstance(sign, (ast.Is, ast.IsNot)):
                if not isinstance(other, ast.Constant) or other.value not in (None, True, False):
                    self.fault("L20", module.path, node, "is of something else")
                elif type(other.value) is int:
                    self.fault("L20", module.path, node, "is of a number")

    def look_Constant(self, module, node):
        if type(node.value) not in (int, str, bool, type(None)):
            self.fault("L7", module.path, node, "a literal of another kind")
        if isinstance(node.value, str):
            if "%" in node.value or node.value.endswith(("._", ".__")):
                self.fault("L27", module.path, node, "the sign for per cent in a text, or a text that ends in ._")
        if type(node.value) is int and node.value >= 10 ** 900:
            self.fault("L27", module.path, node, "a number of more than 900 figures")

    def look_BinOp(self, module, node):
        if isinstance(node.op, ast.Pow):
            exponent = node.right.value if isinstance(node.right, ast.Constant) else None
            if type(exponent) is not int or not 0 <= exponent <= 64:
                self.fault("L27", module.path, node, "an exponent that is not a literal from 0 to 64")

    def look_Dict(self, module, node):
        if None in node.keys:
            self.fault("L7", module.path, node, "** in a dict")

    def look_JoinedStr(self, module, node):
        below = inside(node)
        if node.lineno != node.end_lineno or any(isinstance(one, ast.JoinedStr) for one in below):
            self.fault("L27", module.path, node, "an f-string over two lines, or one in another")
        for value in [one for one in below if isinstance(one, ast.FormattedValue)]:
            if value.conversion != -1 or value.format_spec is not None:
                self.fault("L7", module.path, node, "a conversion or a format")
            if any(isinstance(one, ast.Constant) and isinstance(one.value, str) for one in ast.walk(value)):
                self.fault("L27", module.path, node, "a text in the braces")

    def look_Subscript(self, module, node):
        if isinstance(node.value, (ast.List, ast.Tuple, ast.Dict, ast.Constant, ast.JoinedStr)):
            self.fault("L7", module.path, node, "a literal that is indexed")

    def look_Attribute(self, module, node):
        around = module.parents[node]
        called = isinstance(around, ast.Call) and around.func is node
        if node.attr.startswith("_"):
            self.check_init_of_base(module, node, called)
        elif called:
            if node.attr not in METHODS and node.attr not in self.methods:
                self.fault("L25", module.path, node, f"a method {node.attr}")
        elif node.attr not in self.attributes:
            self.fault("L18", module.path, node, f"{node.attr} is no attribute that a class assigns")

    def check_init_of_base(self, module, node, called):
        function, around = module.around(node, ast.FunctionDef), module.around(node, ast.ClassDef)
        fine = called and node.attr == "__init__" and function is not None and around is not None
        if not fine or function.name != "__init__" or not is_named(node.value, self.line_of(around.name)[1:]):
            return self.fault("L28", module.path, node, f"{node.attr} where it does not stand")
        handed = module.parents[node].args
        if not handed or not is_named(handed[0], ["self"]):
            self.fault("L28", module.path, node, "an __init__ without self first")

    def look_Name(self, module, node):
        if isinstance(node.ctx, ast.Store):
            if module.around(node, ast.FunctionDef) is not None:
                self.check_local(module, node.id, node)
            return
        if node.id in self.locals_of(module, node):
            return
        if node.id in module.classes or node.id in module.imports and node.id in self.classes:
            self.check_class_use(module, node)
        elif node.id in module.functions or node.id in module.imports or node.id in module.values:
            if isinstance(self.value_of(module, node.id), (ast.List, ast.Dict)):
                self.check_table_use(module, node)
        elif hasattr(builtins, node.id):
            self.check_builtin_use(module, node)
        else:
            self.fault("L8", module.path, node, f"{node.id} is not bound")

    def place_of(self, module, node):
        """Where a name stands, in a word."""
        around = module.parents[node]
        upper = module.parents.get(around)
        if isinstance(around, ast.Call) and around.func is node:
            return "called"
        if isinstance(around, ast.ClassDef) and node in around.bases:
            return "base"
        if isinstance(around, ast.ExceptHandler) or isinstance(upper, ast.ExceptHandler) and around is upper.type:
            return "caught"
        if isinstance(around, ast.Call) and is_named(around.func, ["isinstance"]) and node in around.args[1:]:
            return "kind"
        if isinstance(upper, ast.Call) and is_named(upper.func, ["isinstance"]) and around in upper.args[1:]:
            return "kind" if isinstance(around, ast.Tuple) else ""
        if isinstance(around, ast.keyword) and around.arg == "key":
            return "key"
        if isinstance(around, ast.Attribute) and around.attr == "__init__":
            return "init"
        return ""

    def check_class_use(self, module, node):
        if self.place_of(module, node) not in ("called", "base", "caught", "kind", "init"):
            self.fault("L18", module.path, node, f"the class {node.id} as a value")

    def check_builtin_use(self, module, node):
        fine = {"called": FUNCTIONS, "base": ERRORS, "caught": ERRORS, "kind": KINDS, "key": KEYS, "init": ERRORS}
        place = self.place_of(module, node)
        if node.id not in FUNCTIONS and node.id not in ERRORS and node.id not in KINDS:
            self.fault("L8", module.path, node, f"the builtin {node.id}")
        elif node.id not in fine.get(place, ()):
            self.fault("L22", module.path, node, f"{node.id} as a value, or where it does not stand")

    def check_table_use(self, module, node):
        around = module.parents[node]
        fine = (isinstance(around, ast.Subscript) and around.value is node and isinstance(around.ctx, ast.Load)
                or isinstance(around, (ast.For, ast.comprehension)) and around.iter is node
                or isinstance(around, ast.Compare) and node in around.comparators
                or isinstance(around, ast.Attribute) and around.attr == "get"
                or isinstance(around, ast.Call) and is_named(around.func, ["len", "list", "dict", "tuple", "sorted"]))
        if not fine:
            self.fault("L15", module.path, node, f"the table {node.id} is handed on or changed")

    def look_Call(self, module, node):
        self.check_at_once(module, node)
        if isinstance(node.func, ast.Attribute):
            self.check_method_call(module, node)
        elif not isinstance(node.func, ast.Name):
            self.fault("L3", module.path, node, "a call of something that has no name")
        elif node.func.id in self.locals_of(module, node):
            if node.keywords:
                self.fault("L22", module.path, node, "keywords for a function that was handed in")
        elif node.func.id in self.classes:
            self.check_making(module, node)
        elif self.function_of(module, node.func.id) is not None:
            self.check_handed(module, node, self.function_of(module, node.func.id), 0)
        elif node.func.id in FUNCTIONS:
            self.check_count(module, node, FUNCTIONS[node.func.id], KEYWORDS.get(node.func.id, ()))
            if node.func.id == "isinstance" and len(node.args) == 2:
                self.check_kinds(module, node.args[1])

    def check_kinds(self, module, kinds):
        for kind in kinds.elts if isinstance(kinds, ast.Tuple) else [kinds]:
            if not is_named(kind, KINDS | set(self.classes) | ERRORS):
                self.fault("L22", module.path, kind, "isinstance of something else")

    def check_count(self, module, node, least_most, keywords):
        least, most = least_most
        if not least <= len(node.args) <= most:
            self.fault("L22", module.path, node, "too many arguments or too few")
        for keyword in node.keywords:
            if keyword.arg not in keywords:
                self.fault("L22", module.path, node, f"the keyword {keyword.arg}")
            if keyword.arg in ("reverse", "strict"):
                if not isinstance(keyword.value, ast.Constant) or type(keyword.value.value) is not bool:
                    self.fault("L22", module.path, node, f"{keyword.arg} without a literal")
            if keyword.arg == "key" and not self.is_key(module, keyword.value):
                self.fault("L22", module.path, node, "a key that is neither an own function nor one of the listed")
            if keyword.arg == "default" and len(node.args) != 1:
                self.fault("L22", module.path, node, "default beside several arguments")

    def is_key(self, module, node):
        if isinstance(node, ast.Name):
            return node.id in KEYS or self.function_of(module, node.id) is not None
        return isinstance(node, ast.Lambda)

    def check_method_call(self, module, node):
        name = node.func.attr
        if name == "__init__":
            above = node.func.value.id if isinstance(node.func.value, ast.Name) else ""
            if self.maker(above) is not None:
                self.check_handed(module, node, self.maker(above), 0)
            elif node.keywords or not all(is_text(argument) for argument in node.args[1:]):
                self.fault("L22", module.path, node, "an error is made of texts")
        elif name in self.methods:
            for method in self.methods[name]:
                self.check_handed(module, node, method, 1)
            if name in METHODS and node.keywords:
                self.fault("L22", module.path, node, "keywords for a method with a listed name")
        elif name in METHODS:
            self.check_count(module, node, METHODS[name], ())

    def check_making(self, module, node):
        maker = self.maker(node.func.id)
        if maker is not None:
            self.check_handed(module, node, maker, 1)
        elif not self.is_error(node.func.id):
            self.check_count(module, node, (0, 0), ())
        elif node.keywords or not all(is_text(argument) for argument in node.args):
            self.fault("L22", module.path, node, "an error is made of texts")

    def check_handed(self, module, node, function, skipped):
        names = [argument.arg for argument in function.args.args][skipped:]
        by_name = [keyword.arg for keyword in node.keywords]
        given = names[:len(node.args)] + by_name
        needed = names[:len(names) - len(function.args.defaults)]
        if len(node.args) > len(names) or len(set(given)) < len(given) or not set(needed) <= set(given) <= set(names):
            self.fault("L22", module.path, node, f"not what {function.name} takes")

    def check_at_once(self, module, node):
        method = isinstance(node.func, ast.Attribute) and node.func.attr in AT_ONCE_METHODS
        if not method and not is_named(node.func, AT_ONCE):
            return
        around = module.parents[node]
        fine = isinstance(around, (ast.For, ast.comprehension)) and around.iter is node
        if isinstance(around, ast.Call) and around.args[:1] == [node]:
            fine = (is_named(around.func, TAKERS) or self.joins_by_literal(around)
                    or is_named(around.func, ["min", "max"]) and len(around.args) == 1 and not around.keywords
                    or is_named(node.func, ["range"]) and is_named(around.func, ["reversed", "len"]))
        if isinstance(around, ast.Compare) and isinstance(around.ops[0], (ast.In, ast.NotIn)):
            fine = is_named(node.func, ["range"]) or method and node.func.attr == "keys"
        if not fine:
            self.fault("L23", module.path, node, "not gone through on the spot")

    def check_circles(self):
        imports = {name: {module.imports[one] for one in module.imports} for name, module in self.modules.items()}
        for name in imports:
            folders = {above.rpartition(".")[0] for above in imports[name]}
            imports[name] |= {folder for folder in folders if folder in self.modules and folder != name}
        for name in self.in_circles(imports):
            self.fault("L16", self.modules[name].path, None, "an import that leads back")
        for place in self.in_circles(self.calls()):
            self.fault("L11", "", None, f"{place[-1]} may call itself, however deep")

    def calls(self):
        """Which functions and methods call which: methods by their names alone."""
        calls = {}
        for module in self.modules.values():
            for function in [node for node in ast.walk(module.tree) if isinstance(node, ast.FunctionDef)]:
                method = isinstance(module.parents[function], ast.ClassDef)
                called = calls.setdefault(("", function.name) if method else (module.name, function.name), set())
                for node in [below for below in ast.walk(function) if isinstance(below, (ast.Name, ast.Attribute))]:
                    if isinstance(node, ast.Attribute) and node.attr in self.methods and node.attr != "__init__":
                        called.add(("", node.attr))
                    elif isinstance(node, ast.Name) and self.function_of(module, node.id) is not None:
                        called.add((module.imports.get(node.id, module.name), node.id))
        return calls

    def in_circles(self, leads_to):
        """All places from which a way leads back to themselves."""
        back = []
        for place in leads_to:
            reached, left = set(), list(leads_to[place])
            while left:
                there = left.pop()
                if there not in reached:
                    reached.add(there)
                    left.extend(leads_to.get(there, ()))
            if place in reached:
                back.append(place)
        return back


def faults(sources):
    return Checker(sources).check()
