"""The lists of names that the rules of the language tell."""

LIBRARY = {
    "heapq": {"heappush", "heappop", "heapify", "heapreplace", "heappushpop"},
    "math": {"gcd", "lcm", "isqrt", "comb", "perm", "factorial"},
    "itertools": {"product", "combinations", "permutations"},
}
LIBRARY_NAMES = set().union(*LIBRARY.values())

BUILTINS = set("""len range enumerate zip min max sum abs sorted reversed int str bool bytes list
tuple dict set frozenset isinstance ord chr repr any all divmod iter next map property staticmethod
classmethod super Exception ValueError TypeError KeyError IndexError LookupError ZeroDivisionError
ArithmeticError OverflowError RuntimeError NotImplementedError AttributeError StopIteration
NotImplemented True False None""".split()) - {"chr", "bytes"}

CATCHABLE = {"KeyError", "ZeroDivisionError", "StopIteration", "ValueError", "LookupError",
             "IndexError"}

KEYWORDS = {
    "sorted": {"key", "reverse"}, "min": {"key", "default"}, "max": {"key", "default"},
    "sum": {"start"}, "enumerate": {"start"}, "zip": {"strict"},
}

OPERATORS = set("""__lt__ __le__ __gt__ __ge__ __ne__ __add__ __sub__ __mul__ __floordiv__ __mod__
__pow__ __and__ __or__ __xor__ __lshift__ __rshift__ __radd__ __rsub__ __rmul__ __rfloordiv__
__rmod__ __rand__ __ror__ __rxor__ __rlshift__ __rrshift__ __iadd__ __isub__ __imul__ __ifloordiv__
__imod__ __ipow__ __iand__ __ior__ __ixor__ __ilshift__ __irshift__ __contains__ __getitem__""".split())
ALONE = {"__neg__", "__pos__", "__invert__", "__abs__", "__bool__"}
DUNDERS = OPERATORS | ALONE | set("""__init__ __eq__ __repr__ __str__ __len__ __enter__ __exit__
__call__ __iter__ __setitem__""".split())
IN_PLACE = {name for name in OPERATORS if name.startswith("__i") and name != "__invert__"}

METHODS = set("""append clear copy count endswith extend find get index insert isalnum isalpha isdigit
islower isspace isupper items join keys ljust lower lstrip partition pop remove replace reverse rfind
rjust rpartition rsplit rstrip setdefault split splitlines startswith strip update upper values zfill
bit_length title capitalize swapcase casefold center expandtabs removeprefix removesuffix rindex
isascii isdecimal isnumeric istitle isidentifier isprintable translate encode decode add
discard""".split())

MODIFIERS = set("""append clear extend insert pop remove reverse setdefault update sort add
discard""".split())

BUILTIN_ATTRIBUTES = set()
for _value in ("", 0, [], {}, set(), b""):
    BUILTIN_ATTRIBUTES |= set(dir(_value))
FREE_ATTRIBUTES = set("count index title find get join lower upper split strip copy add".split())
FREE_METHODS = METHODS - {"encode", "decode"}

NOWHERE = set("""register mro elements open input law version_info with_traceback add_note""".split())
FRAMES = ("f_", "tb_", "co_", "gi_", "cr_", "ag_")
FRAME_NAMES = set("""f_back f_builtins f_code f_globals f_lasti f_lineno f_locals f_trace tb_frame
tb_lasti tb_lineno tb_next co_names co_code co_consts co_varnames gi_frame gi_code""".split())

NOT_NAMES = set("""attrgetter breakpoint builtins compile copyright credits delattr dir eval exec exit
gc getattr globals hasattr help id importlib license locals methodcaller os quit setattr super type
vars sys""".split())

NO_WORDS = set("""type typing typing_extensions enum Enum IntEnum StrEnum Flag IntFlag Generic
Protocol ABC ABCMeta namedtuple NamedTuple TypedDict TYPE_CHECKING abstractmethod""".split())
NO_PARTS = ("dataclass", "overload", "contextmanager")

NO_FILES = set("""law test tests testing site conftest sitecustomize usercustomize heapq math
itertools""".split())
NO_STARTS = ("_wall", "_pe_", "_dcw_", "_enum_", "_cm_", "_twin_re_", "_lay_", "_law_", "_stub_",
             "_sre", "_WallAttr")
NO_PRIVATE = ("_cold", "_tuplegetter", "_outside", "_record", "_written_out", "_member_names")
