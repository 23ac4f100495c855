"""Look for code that breaks the rules of the program's language, as far as one file shows it.

Each check yields pairs (rule, line). Not all rules are looked at, and where a rule is hard to see
the check is stricter than the rule: then either the code or the check is changed.
"""

import ast
import builtins
import re
import warnings

# A doctest that ran before leaves its last result among the builtins, as `_`.
ALL_BUILTINS = set(dir(builtins)) - {"_"}
BUILTINS = set(
    "len range enumerate zip min max sum abs sorted reversed int str bool bytes list tuple dict set frozenset isinstance"
    " ord repr any all divmod iter next map super property staticmethod classmethod object float Exception ValueError"
    " TypeError KeyError IndexError LookupError ZeroDivisionError ArithmeticError OverflowError RuntimeError"
    " NotImplementedError AttributeError StopIteration NotImplemented".split()
)
METHODS = set(
    "append clear copy count endswith extend find get index insert isalnum isalpha isdigit islower isspace isupper items"
    " join keys ljust lower lstrip partition pop remove replace reverse rfind rjust rpartition rsplit rstrip setdefault"
    " split splitlines startswith strip update upper values zfill bit_length title capitalize swapcase casefold center"
    " expandtabs removeprefix removesuffix rindex isascii isdecimal isnumeric istitle isidentifier isprintable translate"
    " hex add discard".split()
)
LIBRARY = {
    "heapq": {"heappush", "heappop", "heapify", "heapreplace", "heappushpop"},
    "math": {"gcd", "lcm", "isqrt", "comb", "perm", "factorial"},
    "itertools": {"product", "combinations", "permutations"},
}
OPERATORS = "lt le gt ge ne add sub mul floordiv mod pow and or xor lshift rshift".split()
DOUBLE = {f"__{name}__" for name in (
    *"init eq repr str len enter exit call iter neg pos invert abs bool contains getitem setitem".split(),
    *OPERATORS, *("r" + name for name in OPERATORS if name != "pow"), *("i" + name for name in OPERATORS),
)}
STATEMENTS = (
    ast.FunctionDef, ast.ClassDef, ast.Assign, ast.AnnAssign, ast.AugAssign, ast.If, ast.While, ast.For, ast.Return,
    ast.Break, ast.Continue, ast.Pass, ast.Raise, ast.Assert, ast.Delete, ast.Nonlocal, ast.Match, ast.With, ast.Try,
    ast.Expr, ast.ImportFrom,
)
BARRED_NAMES = set(
    "register mro elements open input law version_info with_traceback add_note attrgetter breakpoint builtins compile"
    " copyright credits delattr dir eval exec exit gc getattr globals hasattr help id importlib license locals"
    " methodcaller os quit setattr type vars sys".split()
)
BARRED_WORDS = re.compile(
    r"\b(typing|typing_extensions|enum|Enum|IntEnum|StrEnum|Flag|IntFlag|Generic|Protocol|ABC|ABCMeta|namedtuple"
    r"|NamedTuple|TypedDict|TYPE_CHECKING|abstractmethod)\b|dataclass|overload|contextmanager|\(type\)|Meta|_wall|_WallAttr"
)
PLAIN_NAME = re.compile(r"_?[A-Za-z][A-Za-z0-9_]*|_")
COLLECTING = {"any", "all", "min", "max", "sum", "sorted"}


def breaches(name, text):
    """Return the sorted list of (rule, line) at which the text of a file breaks a rule."""
    with warnings.catch_warnings():
        warnings.simplefilter("error")
        try:
            tree = ast.parse(text)
            compile(text, name, "exec")
        except SyntaxError as problem:
            return [("L27", problem.lineno)]
    found = set()
    for check in (lines, files, functions, imports, library, top_level, statements, last_steps, expressions, names, classes,
                  above, sets):
        found.update(check(name, text, tree))
    return sorted(found)


def lines(name, text, tree):
    rows = text.split("\n")
    for number, row in enumerate(rows, 1):
        if len(row) > 120 or "\t" in row:
            yield "L10", number
        if not all(" " <= sign <= "~" for sign in row):
            yield "L14", number
        if BARRED_WORDS.search(row):
            yield "L17", number
    if len(rows) > 400:
        yield "L10", 400
    for part in ast.walk(tree):
        if isinstance(part, ast.Constant) and isinstance(part.value, (str, bytes)):
            shown = part.value if isinstance(part.value, str) else part.value.decode("latin-1")
            if "%" in shown or shown.endswith(("._", ".__")) or re.fullmatch(r"__.*__", shown):
                yield "L27", part.lineno


def files(name, text, tree):
    if not re.fullmatch(r"[a-z][a-z0-9_]*\.py|__init__\.py", name):
        yield "L14", 1
    if name[:-3] in ALL_BUILTINS or re.match(r"(law_.*|test|tests|testing|test_.*|site|conftest)\.py", name):
        yield "L14", 1


def functions(name, text, tree):
    for part in ast.walk(tree):
        if isinstance(part, ast.FunctionDef):
            if part.end_lineno - part.lineno + 1 > 40:
                yield "L10", part.lineno
            for mark in part.decorator_list:
                if ast.unparse(mark) not in ("property", "staticmethod", "classmethod", f"{part.name}.setter"):
                    yield "L4", part.lineno
            for value in part.args.defaults + [value for value in part.args.kw_defaults if value]:
                if isinstance(value, (ast.List, ast.Dict, ast.Set, ast.Call, ast.Lambda)):
                    yield "L4", part.lineno


def imports(name, text, tree):
    ended = False
    for part in tree.body:
        docstring = isinstance(part, ast.Expr) and isinstance(part.value, ast.Constant)
        if not isinstance(part, ast.ImportFrom) and not docstring:
            ended = True
        elif isinstance(part, ast.ImportFrom) and ended:
            yield "L2", part.lineno
    for part in ast.walk(tree):
        if isinstance(part, ast.Import):
            yield "L16", part.lineno
        if isinstance(part, ast.ImportFrom):
            asked = {alias.name for alias in part.names}
            own = part.level == 0 and re.fullmatch(r"startgaps(\.[a-z0-9_]+)+", part.module or "")
            future = part.module == "__future__" and asked == {"annotations"}
            library = asked <= LIBRARY.get(part.module, set())
            if not (own or future or library) or "*" in asked:
                yield "L2", part.lineno
            if library and any(alias.asname for alias in part.names):
                yield "L2", part.lineno


def library(name, text, tree):
    asked = {alias.name for part in tree.body if isinstance(part, ast.ImportFrom) and part.module in LIBRARY
             for alias in part.names}
    called = {id(part.func) for part in ast.walk(tree) if isinstance(part, ast.Call) and not part.keywords}
    for part in ast.walk(tree):
        if isinstance(part, ast.Name) and part.id in asked and id(part) not in called:
            yield "L2", part.lineno


def top_level(name, text, tree):
    bound = []
    for at, part in enumerate(tree.body):
        if isinstance(part, ast.Assign):
            if len(part.targets) != 1 or not isinstance(part.targets[0], ast.Name):
                yield "L3", part.lineno
            elif any(isinstance(inner, (ast.Call, ast.Lambda, ast.Set)) for inner in ast.walk(part.value)):
                yield "L3", part.lineno
            bound += [ast.unparse(target) for target in part.targets]
        elif isinstance(part, (ast.FunctionDef, ast.ClassDef)):
            bound.append(part.name)
        elif isinstance(part, ast.ImportFrom):
            bound += [alias.asname or alias.name for alias in part.names]
        elif not (at == 0 and isinstance(part, ast.Expr) and isinstance(part.value, ast.Constant)):
            yield "L3", part.lineno
    if len(bound) != len(set(bound)):
        yield "L15", 1
    barred = set(bound_classes_and_imports(tree)) | ALL_BUILTINS - {"map", "next"}
    for part in ast.walk(tree):
        if isinstance(part, ast.arg) and part.arg in barred:
            yield "L15", part.lineno
        if isinstance(part, ast.Name) and isinstance(part.ctx, ast.Store) and part.id in barred:
            yield "L15", part.lineno


def bound_classes_and_imports(tree):
    for part in tree.body:
        if isinstance(part, ast.ClassDef):
            yield part.name
        if isinstance(part, ast.ImportFrom):
            yield from (alias.asname or alias.name for alias in part.names)


def statements(name, text, tree):
    for part in ast.walk(tree):
        if isinstance(part, ast.stmt) and not isinstance(part, STATEMENTS):
            yield "L6", part.lineno
        if isinstance(part, ast.Expr) and not isinstance(part.value, (ast.Call, ast.Constant, ast.Yield, ast.YieldFrom)):
            yield "L6", part.lineno
        if isinstance(part, ast.ExceptHandler) and part.type is None:
            yield "L6", part.lineno
        if isinstance(part, ast.ExceptHandler) and part.type is not None:
            caught = part.type.elts if isinstance(part.type, ast.Tuple) else [part.type]
            if not caught or {ast.unparse(one) for one in caught} & {
                    "Exception", "TypeError", "ArithmeticError", "OverflowError", "RuntimeError", "NotImplementedError",
                    "AttributeError", "BaseException"}:
                yield "L19", part.lineno
        if isinstance(part, ast.Raise) and part.exc is not None:
            if not (isinstance(part.exc, ast.Call) and isinstance(part.exc.func, ast.Name)):
                yield "L19", part.lineno


def last_steps(name, text, tree):
    """Look at the rows of each `finally`: assignments of plain values, and tests for None."""
    for part in ast.walk(tree):
        for row in part.finalbody if isinstance(part, ast.Try) else []:
            for inner in ast.walk(row):
                if isinstance(inner, ast.stmt) and not isinstance(inner, (ast.Assign, ast.If, ast.Pass)):
                    yield "L6", inner.lineno
                if isinstance(inner, (ast.Call, ast.Subscript, ast.BinOp, ast.UnaryOp, ast.Lambda, ast.JoinedStr)):
                    yield "L6", inner.lineno
                if isinstance(inner, ast.Compare) and not isinstance(inner.ops[0], (ast.Is, ast.IsNot)):
                    yield "L6", inner.lineno


def expressions(name, text, tree):
    for part in ast.walk(tree):
        if isinstance(part, ast.Constant) and isinstance(part.value, (float, complex)):
            yield "L7", part.lineno
        if isinstance(part, (ast.BinOp, ast.AugAssign)) and isinstance(part.op, (ast.Div, ast.MatMult)):
            yield "L7", part.lineno
        if isinstance(part, (ast.Await, ast.AsyncFor, ast.AsyncWith)):
            yield "L6", part.lineno
        if isinstance(part, ast.Compare):
            sides = [part.left, *part.comparators]
            for sign, left, right in zip(part.ops, sides, sides[1:]):
                if isinstance(sign, (ast.Is, ast.IsNot)) and not (is_single(left) or is_single(right)):
                    yield "L20", part.lineno
        if isinstance(part, ast.Call):
            yield from calls(part)


def is_plain(part):
    """Tell whether a value is a name, an attribute off a name, or a literal of such."""
    if isinstance(part, (ast.Tuple, ast.List)):
        return all(is_plain(inner) for inner in part.elts)
    if isinstance(part, ast.Attribute):
        return isinstance(part.value, ast.Name)
    return isinstance(part, (ast.Name, ast.Constant))


def is_single(part):
    return isinstance(part, ast.Constant) and part.value in (None, True, False)


def calls(part):
    starred = [given for given in part.args if isinstance(given, ast.Starred)]
    if starred and not all(is_plain(given.value if given in starred else given) for given in part.args):
        yield "L7", part.lineno
    if isinstance(part.func, ast.Name) and part.func.id in COLLECTING:
        # Own classes have __eq__ and operators here, so a list is taken and not a generator expression.
        if any(isinstance(given, ast.GeneratorExp) for given in part.args):
            yield "L7", part.lineno
    if isinstance(part.func, ast.Attribute):
        builtin = any(hasattr(kind, part.func.attr) for kind in (str, bytes, int, list, tuple, dict, set))
        if builtin and part.func.attr not in METHODS and part.func.attr not in DOUBLE:
            yield "L25", part.lineno
        if part.func.attr == "sort":
            yield "L25", part.lineno


def names(name, text, tree):
    for part in ast.walk(tree):
        for word in bound_words(part):
            if not PLAIN_NAME.fullmatch(word) and not (isinstance(part, ast.FunctionDef) and word in DOUBLE):
                yield "L12", part.lineno
            if word in BARRED_NAMES and not isinstance(part, ast.Attribute):
                yield "L17", part.lineno
        if isinstance(part, ast.Name) and part.id in ALL_BUILTINS and part.id not in BUILTINS:
            yield "L8", part.lineno
        if isinstance(part, ast.Name) and part.id == "_" and isinstance(part.ctx, ast.Load):
            yield "L12", part.lineno
        if isinstance(part, ast.Attribute) and re.match(r"__", part.attr):
            # Of these names only `Base.__init__`, `super().__init__` and `self.__class__.__name__` are read.
            shown = ast.unparse(part)
            if not (part.attr == "__init__" or re.search(r"\w\.__class__(\.__name__)?$", shown)):
                yield "L8", part.lineno


def bound_words(part):
    if isinstance(part, (ast.FunctionDef, ast.ClassDef)):
        return [part.name]
    if isinstance(part, ast.arg):
        return [part.arg]
    if isinstance(part, ast.Name) and isinstance(part.ctx, ast.Store):
        return [part.id]
    if isinstance(part, ast.Attribute):
        return [part.attr] if not part.attr.startswith("__") else []
    return []


def classes(name, text, tree):
    for part in ast.walk(tree):
        if not isinstance(part, ast.ClassDef):
            continue
        if part.decorator_list or part not in tree.body or part.keywords:
            yield "L5", part.lineno
        methods = [inner for inner in part.body if isinstance(inner, ast.FunctionDef)]
        plain = [inner.name for inner in methods if not any(".setter" in ast.unparse(mark) for mark in inner.decorator_list)]
        if len(plain) != len(set(plain)):
            yield "L18", part.lineno
        if "__getitem__" in plain and "__iter__" not in plain and not part.bases:
            yield "L5", part.lineno
        stored = {inner.attr for inner in ast.walk(part) if isinstance(inner, ast.Attribute)
                  and isinstance(inner.ctx, ast.Store) and ast.unparse(inner.value) == "self"}
        properties = {inner.name for inner in methods if inner.decorator_list}
        if stored & (set(plain) - properties):
            yield "L18", part.lineno
        for method in methods:
            if method.name.startswith("__") and method.name not in DOUBLE:
                yield "L5", method.lineno
            unchanging = method.name in DOUBLE - {"__init__", "__call__", "__setitem__", "__enter__", "__exit__"}
            if (unchanging or method.name in properties) and changes_attributes(method):
                yield "L5", method.lineno


def above(name, text, tree):
    """Look at each `super()`: it calls a plain method, or `__init__` in an `__init__`."""
    calls_of_methods = {id(part.func) for part in ast.walk(tree) if isinstance(part, ast.Call)}
    good = set()
    for part in ast.walk(tree):
        if isinstance(part, ast.Attribute) and ast.unparse(part.value) == "super()" and id(part) in calls_of_methods:
            if not part.attr.startswith("__") or part.attr == "__init__":
                good.add(id(part.value.func))
    for part in ast.walk(tree):
        if isinstance(part, ast.Name) and part.id == "super" and id(part) not in good:
            yield "L5", part.lineno


def changes_attributes(method):
    setter = any(".setter" in ast.unparse(mark) for mark in method.decorator_list)
    in_place = method.name.startswith("__i") and method.name[3:-2] in OPERATORS
    if setter or in_place:
        return False
    return any(isinstance(part, (ast.Attribute, ast.Subscript)) and not isinstance(part.ctx, ast.Load)
               for part in ast.walk(method))


def sets(name, text, tree):
    allowed = set()
    for part in ast.walk(tree):
        if isinstance(part, ast.Call) and isinstance(part.func, ast.Name) and part.func.id in ("sorted", "len"):
            allowed.update(id(given) for given in part.args)
        if isinstance(part, ast.Compare):
            allowed.update(id(side) for side in (part.left, *part.comparators))
        if isinstance(part, ast.Assign) and len(part.targets) == 1 and isinstance(part.targets[0], ast.Name):
            allowed.add(id(part.value))
    for part in ast.walk(tree):
        made = isinstance(part, ast.Call) and isinstance(part.func, ast.Name) and part.func.id in ("set", "frozenset")
        if (made or isinstance(part, (ast.Set, ast.SetComp))) and id(part) not in allowed:
            yield "L24", part.lineno
