"""Looks for code that breaks a rule of LANGUAGE.md; each fault is a pair of a rule and a line.

Only what a rule says of the mere text or tree of a file is looked for here.
"""

import ast
import builtins
import io
import re
import tokenize
import warnings

PACKAGE = "neverowing"
LIBRARY = {
    "heapq": "heappush heappop heapify heapreplace heappushpop".split(),
    "math": "gcd lcm isqrt comb perm factorial".split(),
    "itertools": "product combinations permutations".split(),
}
BUILTINS = """len range enumerate zip min max sum abs sorted reversed int str bool bytes list tuple dict set
isinstance ord repr any all divmod Exception ValueError TypeError KeyError IndexError LookupError
ZeroDivisionError ArithmeticError OverflowError RuntimeError NotImplementedError AttributeError StopIteration
NotImplemented iter next map super property staticmethod classmethod object float""".split()
DOUBLE = """__init__ __eq__ __repr__ __str__ __len__ __enter__ __exit__ __call__ __iter__ __lt__ __le__ __gt__
__ge__ __ne__ __add__ __sub__ __mul__ __floordiv__ __mod__ __pow__ __and__ __or__ __xor__ __lshift__ __rshift__
__radd__ __rsub__ __rmul__ __rfloordiv__ __rmod__ __rand__ __ror__ __rxor__ __rlshift__ __rrshift__ __iadd__
__isub__ __imul__ __ifloordiv__ __imod__ __ipow__ __iand__ __ior__ __ixor__ __ilshift__ __irshift__ __neg__
__pos__ __invert__ __abs__ __bool__ __contains__ __getitem__ __setitem__""".split()
METHODS = """append clear copy count endswith extend find get index insert isalnum isalpha isdigit islower isspace
isupper items join keys ljust lower lstrip partition pop remove replace reverse rfind rjust rpartition rsplit
rstrip setdefault split splitlines startswith strip update upper values zfill bit_length title capitalize
swapcase casefold center expandtabs removeprefix removesuffix rindex isascii isdecimal isnumeric istitle
isidentifier isprintable translate sort add discard""".split()
STATEMENTS = """FunctionDef ClassDef Assign AugAssign AnnAssign If While For Return Break Continue Pass Raise
Assert Delete Nonlocal Match With Try Expr ImportFrom""".split()
ON_THE_SPOT = ("zip", "enumerate", "reversed", "range")
TAKE_ANY = "list tuple dict sorted sum any all enumerate zip bytes min max len reversed".split()
KEYWORDS = {"sorted": ["key", "reverse"], "min": ["key", "default"], "max": ["key", "default"], "sum": ["start"],
            "enumerate": ["start"], "zip": ["strict"]}
BARRED = """register mro elements open input law version_info with_traceback add_note attrgetter breakpoint
builtins compile copyright credits delattr dir eval exec exit gc getattr globals hasattr help id importlib license
locals methodcaller os quit setattr super type vars sys""".split()
WORDS = """type typing typing_extensions enum Enum IntEnum StrEnum Flag IntFlag Generic Protocol ABC ABCMeta
namedtuple NamedTuple TypedDict TYPE_CHECKING abstractmethod""".split()

AT_ONCE = "list tuple sorted sum min max any all".split()
GIVES_LISTS = "list sorted range zip".split()
CAUGHT_WITH_CARE = ("ValueError", "LookupError", "IndexError")
CARE = """int str len isinstance abs ord enumerate list tuple bytes zip range sorted any all bool min max sum index remove
get append pop strip lstrip rstrip upper lower isdigit isalpha isalnum startswith endswith find split replace ljust
rjust zfill center join encode decode hex""".split()

CHANGING = "append clear extend insert pop remove reverse setdefault update sort add discard".split()
HEAPS = ("heappush", "heappop", "heapify", "heapreplace", "heappushpop")


def builtin_attributes():
    return {name for value in ("", 0, [], {}, set(), b"", ()) for name in dir(value)}


def faults_of(text):
    """The faults of one file."""
    found = text_faults(text)
    with warnings.catch_warnings():
        warnings.simplefilter("error")
        try:
            compile(text, "file", "exec")
        except (SyntaxError, SyntaxWarning):
            # Python raises the one or the other for a warning that is made an error.
            return found + [("L27", 1)]
        tree = ast.parse(text)
    for node in ast.walk(tree):
        for child in ast.iter_child_nodes(node):
            child.parent = node
    return found + module_faults(tree) + tree_faults(tree, local_names(tree))


def text_faults(text):
    lines = text.split("\n")
    found = [("L14", k) for k, line in enumerate(lines, 1) if not all(" " <= sign <= "~" for sign in line)]
    found += [("L10", k) for k, line in enumerate(lines, 1) if len(line) > 120 or "\t" in line]
    if len(text.splitlines()) > 399:
        found.append(("L10", 399))
    if re.search(r"_wall|_WallAttr", text):
        found.append(("L12", 1))
    for token in tokenize.generate_tokens(io.StringIO(text).readline):
        if token.type == tokenize.STRING and re.search(r"\\[^nt\\'\"]", token.string.replace("\\\\", "")):
            found.append(("L27", token.start[0]))
    return found


def local_names(tree):
    """The names that are assigned anywhere in the file, but for attributes."""
    names = {node.id for node in ast.walk(tree) if isinstance(node, ast.Name) and isinstance(node.ctx, ast.Store)}
    names |= {node.arg for node in ast.walk(tree) if isinstance(node, ast.arg)}
    return names | {node.name for node in ast.walk(tree) if isinstance(node, ast.ExceptHandler) and node.name}


def module_faults(tree):
    found = []
    bound = []
    for k, node in enumerate(tree.body):
        if isinstance(node, ast.ImportFrom):
            before = tree.body[:k]
            if not all(isinstance(one, ast.ImportFrom) or is_docstring(one) for one in before):
                found.append(("L2", node.lineno))
            bound += [alias.asname or alias.name for alias in node.names]
        elif isinstance(node, (ast.FunctionDef, ast.ClassDef)):
            bound.append(node.name)
        elif isinstance(node, ast.Assign) and len(node.targets) == 1 and isinstance(node.targets[0], ast.Name):
            bound.append(node.targets[0].id)
            if any(isinstance(one, (ast.Call, ast.ListComp, ast.Lambda)) for one in ast.walk(node.value)):
                found.append(("L3", node.lineno))
        elif not (k == 0 and is_docstring(node)):
            found.append(("L3", node.lineno))
    if len(set(bound)) < len(bound):
        found.append(("L15", 1))
    own = {node.name for node in tree.body if isinstance(node, ast.ClassDef)}
    own |= {alias.name for node in tree.body if isinstance(node, ast.ImportFrom) for alias in node.names}
    nested = {node.name for node in ast.walk(tree)
              if isinstance(node, ast.FunctionDef) and isinstance(node.parent, ast.FunctionDef)}
    if own & (local_names(tree) | nested):
        found.append(("L15", 1))
    return found


def is_docstring(node):
    return isinstance(node, ast.Expr) and isinstance(node.value, ast.Constant) and isinstance(node.value.value, str)


def tree_faults(tree, names):
    found = []
    for node in ast.walk(tree):
        for looks in (statement_rules, function_rules, class_rules, value_rules, name_rules, call_rules, set_rules,
                      library_rules, loop_rules, operator_rules, lambda_rules, product_rules, generator_rules,
                      handler_rules):
            found += [(rule, getattr(node, "lineno", 1)) for rule in looks(node)]
        if isinstance(node, ast.Name) and hasattr(builtins, node.id):
            if node.id not in BUILTINS or node.id in names:
                found.append(("L8", node.lineno))
    return found


def statement_rules(node):
    if isinstance(node, ast.stmt) and type(node).__name__ not in STATEMENTS:
        yield "L2" if isinstance(node, ast.Import) else "L6"
    if isinstance(node, ast.ImportFrom):
        wanted = LIBRARY.get(node.module)
        if node.level or not (wanted or node.module.startswith(PACKAGE + ".")):
            yield "L2"
        if any(alias.name == "*" or alias.asname or (wanted and alias.name not in wanted) for alias in node.names):
            yield "L2"
    if isinstance(node, ast.Raise) and node.exc is not None:
        if not (isinstance(node.exc, ast.Call) and isinstance(node.exc.func, ast.Name)):
            yield "L19"
    if isinstance(node, ast.ExceptHandler):
        caught = node.type.elts if isinstance(node.type, ast.Tuple) else [node.type]
        barred = "Exception TypeError ArithmeticError OverflowError RuntimeError AttributeError".split()
        if not caught or any(one is None or getattr(one, "id", "") in barred for one in caught):
            yield "L19"
    if isinstance(node, ast.Expr) and not is_docstring(node):
        if not isinstance(node.value, (ast.Call, ast.Yield, ast.YieldFrom)):
            yield "L6"


def function_rules(node):
    if not isinstance(node, ast.FunctionDef):
        return
    first = node.decorator_list[0].lineno if node.decorator_list else node.lineno
    if node.end_lineno - first + 1 > 40:
        yield "L10"
    for one in node.decorator_list:
        if not (isinstance(one, ast.Attribute) and one.attr == "setter"):
            if getattr(one, "id", "") not in ("property", "staticmethod", "classmethod"):
                yield "L4"
    for value in node.args.defaults + [one for one in node.args.kw_defaults if one is not None]:
        if any(isinstance(one, (ast.Call, ast.List, ast.Dict, ast.Set, ast.Lambda, ast.ListComp, ast.Compare, ast.IfExp))
               for one in ast.walk(value)):
            yield "L4"
    in_class = isinstance(node.parent, ast.ClassDef)
    if node.name.startswith("__") and (node.name not in DOUBLE or not in_class):
        yield "L5" if in_class else "L28"
    returns = [one for one in ast.walk(node) if isinstance(one, ast.Return)]
    if node.name == "__init__" and any(one.value is not None for one in returns):
        yield "L28"
    if node.name in ("__len__", "__str__", "__repr__") and not isinstance(node.body[-1], ast.Return):
        yield "L28"
    if in_class and node.name in builtin_attributes() - set(METHODS) - set(DOUBLE):
        yield "L26"


def class_rules(node):
    if isinstance(node, ast.ClassDef):
        if node.decorator_list or node.keywords or not isinstance(node.parent, ast.Module):
            yield "L5"
        methods = [one.name for one in node.body if isinstance(one, ast.FunctionDef)]
        kept = {one.attr for one in ast.walk(node) if isinstance(one, ast.Attribute)
                and isinstance(one.ctx, ast.Store) and getattr(one.value, "id", "") == "self"}
        if len(set(methods)) < len(methods) or kept & set(methods):
            yield "L18"
        if kept & (builtin_attributes() - set("count index title find get join lower upper split strip copy".split())):
            yield "L26"


def value_rules(node):
    if isinstance(node, ast.Constant):
        if isinstance(node.value, (float, complex)) or (node.value is Ellipsis):
            yield "L7"
        if isinstance(node.value, str) and not is_docstring(node.parent):
            if re.fullmatch(r"__.*__", node.value, re.S) and node.value != "__main__":
                yield "L27"
            if any(word in WORDS[1:] for word in re.findall(r"\w+", node.value)):
                yield "L17"
        if isinstance(node.value, str) and ("%" in node.value or node.value.endswith(("._", ".__"))):
            yield "L27"
    if isinstance(node, ast.Div) or (isinstance(node, ast.Set) and len(node.elts) > 2 and all_integers(node)):
        yield "L7" if isinstance(node, ast.Div) else "L13"
    if isinstance(node, ast.GeneratorExp):
        owner = node.parent
        if not (isinstance(owner, ast.Call) and getattr(owner.func, "id", "") in ("list", "tuple", "dict")):
            if not (isinstance(owner, ast.Call) and getattr(owner.func, "attr", "") == "join"):
                yield "L7"
    if isinstance(node, ast.Compare):
        for sign, right in zip(node.ops, node.comparators):
            if isinstance(sign, (ast.Is, ast.IsNot)) and not isinstance(right, ast.Constant):
                yield "L20"
            if isinstance(sign, (ast.Is, ast.IsNot)) and getattr(right, "value", None) not in (None, True, False):
                yield "L20"
    if isinstance(node, ast.BinOp) and isinstance(node.op, ast.Pow) and isinstance(node.left, ast.Constant):
        if node.left.value == 2 and not isinstance(node.right, ast.Constant):
            yield "L27"
    if isinstance(node, ast.Await):
        yield "L6"


def all_integers(node):
    return all(isinstance(one, ast.Constant) and isinstance(one.value, int) for one in node.elts)


def names_in(node):
    """The pairs of a name in this node and whether it is an attribute or a method."""
    if isinstance(node, ast.Name):
        return [(node.id, False)]
    if isinstance(node, ast.arg):
        return [(node.arg, False)]
    if isinstance(node, ast.Attribute):
        return [(node.attr, True)]
    if isinstance(node, ast.FunctionDef):
        return [(node.name, isinstance(node.parent, ast.ClassDef))]
    if isinstance(node, (ast.ClassDef, ast.ExceptHandler)):
        return [(node.name, False)] if node.name else []
    if isinstance(node, ast.keyword):
        return [(node.arg, True)] if node.arg else []
    if isinstance(node, ast.alias):
        return [(node.name, False)]
    return []


def name_rules(node):
    for name, is_attribute in names_in(node):
        if name in DOUBLE:
            continue
        if not re.fullmatch(r"_?[A-Za-z][A-Za-z0-9_]*|_", name):
            yield "L12"
        if name in WORDS or name in BARRED[:9] or re.match(r"(f|tb|co|gi|cr|ag)_(?!.*_.*_)[a-z]+$", name):
            yield "L17"
        if not is_attribute and (name in BARRED and name != "super"):
            yield "L17"
        if name in ("format", "format_map"):
            yield "L8"
    if isinstance(node, ast.Name) and node.id == "_" and isinstance(node.ctx, ast.Load):
        yield "L12"
    if isinstance(node, (ast.FunctionDef, ast.ClassDef, ast.arg)):
        name = node.arg if isinstance(node, ast.arg) else node.name
        if hasattr(builtins, name) and not isinstance(getattr(node, "parent", None), ast.ClassDef):
            yield "L15"


def call_rules(node):
    if isinstance(node, ast.Attribute) and isinstance(node.ctx, ast.Load):
        if node.attr in builtin_attributes() - set(METHODS) and node.attr not in ("maketrans", "__init__"):
            yield "L25"
    if not isinstance(node, ast.Call):
        return
    name = getattr(node.func, "id", "")
    words = [one.arg for one in node.keywords]
    if name in BUILTINS and any(word not in KEYWORDS.get(name, []) for word in words):
        yield "L22"
    if isinstance(node.func, ast.Constant) or isinstance(node.func, ast.Lambda):
        yield "L7"
    if name in ON_THE_SPOT and not stands_on_the_spot(node):
        yield "L23"
    if getattr(node.func, "attr", "") in ("items", "keys", "values") and not stands_on_the_spot(node):
        yield "L23"


def stands_on_the_spot(node):
    owner = node.parent
    if isinstance(owner, (ast.For, ast.comprehension)):
        return owner.iter is node
    if isinstance(owner, ast.Call):
        return getattr(owner.func, "id", "") in TAKE_ANY or getattr(owner.func, "attr", "") == "join"
    if isinstance(owner, ast.Assign):
        return isinstance(owner.targets[0], ast.Name)
    return isinstance(owner, ast.Compare) and isinstance(owner.ops[0], (ast.In, ast.NotIn))


def set_rules(node):
    called = isinstance(node, ast.Call) and getattr(node.func, "id", "") in ("set", "frozenset")
    if not (called or isinstance(node, (ast.Set, ast.SetComp))):
        return
    owner = node.parent
    while isinstance(owner, ast.BinOp):
        owner = owner.parent
    if isinstance(owner, ast.Call) and getattr(owner.func, "id", "") in ("sorted", "len"):
        return
    if isinstance(owner, ast.Assign) and isinstance(owner.targets[0], ast.Name):
        return
    if not isinstance(owner, ast.Compare):
        yield "L24"


def library_rules(node):
    """A name from the library is only called, by its bare name, with all arguments by position."""
    if isinstance(node, ast.Name) and node.id in sum(LIBRARY.values(), []):
        owner = node.parent
        if not (isinstance(owner, ast.Call) and owner.func is node and not owner.keywords):
            yield "L2"
        while owner is not None and not isinstance(owner, ast.FunctionDef):
            owner = getattr(owner, "parent", None)
        if owner is None:
            yield "L2"


def gone_over(node):
    """The texts of what a loop goes over, also through enumerate, zip and the like."""
    if isinstance(node, ast.Call) and getattr(node.func, "id", "") in ("enumerate", "zip", "reversed"):
        return [text for one in node.args for text in gone_over(one)]
    if isinstance(node, ast.Call) and getattr(node.func, "attr", "") in ("items", "keys", "values"):
        return gone_over(node.func.value)
    if isinstance(node, (ast.IfExp, ast.BoolOp)):
        parts = [node.body, node.orelse] if isinstance(node, ast.IfExp) else node.values
        return [text for one in parts for text in gone_over(one)]
    return [ast.unparse(node)] if isinstance(node, (ast.Name, ast.Attribute, ast.Subscript)) else []


def changed_in(node):
    """The texts of what a statement or a call changes in place."""
    if isinstance(node, ast.Call) and getattr(node.func, "attr", "") in CHANGING:
        return [ast.unparse(node.func.value)]
    if isinstance(node, ast.Call) and getattr(node.func, "id", "") in HEAPS:
        return [ast.unparse(node.args[0])]
    if isinstance(node, ast.Subscript) and isinstance(node.ctx, (ast.Store, ast.Del)):
        return [ast.unparse(node.value)]
    if isinstance(node, ast.AugAssign):
        return [ast.unparse(node.target)]
    return []


def loop_rules(node):
    if isinstance(node, ast.For):
        texts = gone_over(node.iter)
        if any(text in texts for row in node.body for one in ast.walk(row) for text in changed_in(one)):
            yield "L23"


def operator_rules(node):
    """Double-underscore methods but __init__, __call__ and in-place ones change nothing."""
    if isinstance(node, ast.FunctionDef) and node.name in DOUBLE:
        if node.name in ("__init__", "__call__", "__setitem__", "__exit__", "__enter__") or node.name[2] == "i":
            return
        for one in ast.walk(node):
            if isinstance(one, (ast.Attribute, ast.Subscript)) and not isinstance(one.ctx, ast.Load):
                yield "L5"
            if isinstance(one, (ast.AugAssign, ast.Delete)) or changed_in(one):
                yield "L5"


def lambda_rules(node):
    """No two lambdas on one line have parameters of the same names."""
    if isinstance(node, ast.Module):
        rows = [(one.lineno, [arg.arg for arg in one.args.args]) for one in ast.walk(node)
                if isinstance(one, ast.Lambda) and one.args.args]
        if any(rows.count(row) > 1 for row in rows):
            yield "L13"


def product_rules(node):
    """What itertools gives is iterated at once, over lists, and not in a generator."""
    if not isinstance(node, ast.Call) or getattr(node.func, "id", "") not in LIBRARY["itertools"]:
        return
    owner = node.parent
    if isinstance(owner, (ast.For, ast.comprehension)):
        if owner.iter is not node or isinstance(owner.parent, ast.GeneratorExp):
            yield "L2"
    elif not (isinstance(owner, ast.Call) and getattr(owner.func, "id", "") in AT_ONCE and not owner.keywords):
        yield "L2"
    lists = node.args[:1] if node.func.id in ("combinations", "permutations") else node.args
    if any(not gives_list(one) for one in lists):
        yield "L2"
    if any(isinstance(one, (ast.Yield, ast.YieldFrom)) for one in ast.walk(function_around(node) or ast.Pass())):
        yield "L2"


def gives_list(node):
    if isinstance(node, ast.Call):
        return getattr(node.func, "id", "") in GIVES_LISTS or getattr(node.func, "attr", "") == "items"
    return isinstance(node, (ast.Name, ast.Attribute, ast.Subscript, ast.List, ast.ListComp, ast.Constant))


def function_around(node):
    while node is not None and not isinstance(node, (ast.FunctionDef, ast.Lambda)):
        node = getattr(node, "parent", None)
    return node


def generator_rules(node):
    """A yield is a statement of its own, under no try or with; a generator returns nothing."""
    if not isinstance(node, (ast.Yield, ast.YieldFrom)):
        return
    owner = node.parent
    if not isinstance(owner, ast.Expr):
        yield "L23"
    while not isinstance(owner, (ast.FunctionDef, ast.Lambda)):
        if isinstance(owner, (ast.Try, ast.With)):
            yield "L23"
        owner = owner.parent
    if isinstance(owner, ast.Lambda) or owner.decorator_list or owner.name in DOUBLE:
        yield "L23"
    if any(isinstance(one, ast.Return) and one.value is not None for one in ast.walk(owner)):
        yield "L23"


def handler_rules(node):
    """Where some of Python's own errors are caught, nothing of one's own is called."""
    if not isinstance(node, ast.Try):
        return
    kinds = [handler.type for handler in node.handlers if handler.type is not None]
    caught = [one.id for kind in kinds for one in ast.walk(kind) if isinstance(one, ast.Name)]
    if any(name in CAUGHT_WITH_CARE for name in caught):
        for one in [one for row in node.body for one in ast.walk(row)]:
            if isinstance(one, ast.Call) and getattr(one.func, "id", getattr(one.func, "attr", "")) not in CARE:
                yield "L19"


def quiet_faults(texts):
    """What the operators of a package change, also in the functions that they call; faults of L5.

    A package with an in-place operator has no += in them at all. Functions are told apart by their names alone.
    """
    trees = [ast.parse(text) for text in texts]
    functions = {}
    for tree in trees:
        for one in ast.walk(tree):
            if isinstance(one, ast.FunctionDef):
                functions.setdefault(one.name, []).append(one)
    in_place = [name for name in functions if name in DOUBLE and re.match("__i[a-z]", name) and name != "__invert__"
                and name not in ("__init__", "__iter__")]
    waiting = [name for name in functions if name in DOUBLE and name not in in_place
               and name not in ("__init__", "__call__", "__setitem__", "__enter__", "__exit__")]
    waiting += [one.name for rows in functions.values() for one in rows
                if any(getattr(row, "id", "") == "property" for row in one.decorator_list)]
    seen = set(waiting)
    found = []
    while waiting:
        for one in functions[waiting.pop()]:
            found += [("L5", row.lineno) for row in ast.walk(one) if is_loud(row, bool(in_place))]
            for row in ast.walk(one):
                name = getattr(row, "id", getattr(row, "attr", "")) if isinstance(row, (ast.Name, ast.Attribute)) else ""
                if name in functions and name not in seen:
                    seen.add(name)
                    waiting.append(name)
    return found


def is_loud(node, in_place):
    if isinstance(node, (ast.Attribute, ast.Subscript)):
        return not isinstance(node.ctx, ast.Load)
    if isinstance(node, ast.AugAssign):
        return in_place or not isinstance(node.target, ast.Name)
    return isinstance(node, ast.Call) and bool(changed_in(node))
