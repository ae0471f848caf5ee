"""Which modules are used, which names are seen, and which sorts kinds may name: faults 2 to 5."""

from judgedrules.faults import BAD_NAME, BAD_SORT, BAD_USE, MODULE_TWICE, tell_first
from judgedrules.nodes import all_declared

OWN_WORDS = ("len", "raw", "show", "seconds", "at", "part", "now")
NAMED = ("sort", "fact", "rule", "fun", "action")


def check_names(modules):
    """Settle what each module sees."""
    tell_first(BAD_USE, bad_uses(modules))
    tell_first(MODULE_TWICE, modules_named_twice(modules))
    by_name = {}
    wrong = []
    for module in modules:
        wrong.extend(see_used(module, by_name))
        wrong.extend(see_declared(module))
        by_name[module.name] = module
    tell_first(BAD_NAME, wrong)
    tell_first(BAD_SORT, bad_sorts(modules))


def bad_uses(modules):
    """The places of modules with a use of none before, or of one twice."""
    before = {}
    wrong = []
    for module in modules:
        known = all([name in before for name in module.uses])
        if not known or len(set(module.uses)) < len(module.uses):
            wrong.append(module.place)
        before[module.name] = True
    return wrong


def modules_named_twice(modules):
    """The places of modules whose names ones before them have."""
    before = {}
    wrong = []
    for module in modules:
        if module.name in before:
            wrong.append(module.place)
        before[module.name] = True
    return wrong


def see_used(module, by_name):
    """Let a module see what those that it uses declare; its place, if two have one name."""
    wrong = []
    for used in module.uses:
        for declaration in by_name[used].declared:
            if declaration.form in NAMED:
                if declaration.name in module.seen:
                    wrong.append(module.place)
                module.seen[declaration.name] = declaration
    return wrong


def see_declared(module):
    """Let a module see its own declarations; the places of those with a wrong name or wrong params."""
    wrong = []
    for declaration in module.declared:
        params = declaration.params
        if len(set(params)) < len(params):
            wrong.append(declaration.place)
        if declaration.form in NAMED:
            if declaration.name in OWN_WORDS or declaration.name in module.seen:
                wrong.append(declaration.place)
            module.seen[declaration.name] = declaration
    return wrong


def bad_sorts(modules):
    """The places of kinds that name a sort that isn't seen, or isn't declared before."""
    wrong = []
    for declaration in all_declared(modules):
        nodes = list(declaration.param_nodes)
        if declaration.kind_node is not None:
            nodes.append(declaration.kind_node)
        for node in nodes:
            wrong.extend([named.place for named in named_sorts(node) if not may_name(declaration, named.word)])
    return wrong


def named_sorts(node):
    """The nodes within a kind that name sorts."""
    found = [node] if node.form == "sort" else []
    for part in node.parts:
        found.extend(named_sorts(part))
    return found


def may_name(declaration, name):
    """Whether a declaration's kinds may name a sort of this name."""
    sort = declaration.home.seen.get(name)
    if sort is None or sort.form != "sort":
        return False
    return declaration.form != "sort" or is_before(sort, declaration)


def is_before(one, other):
    """Whether what a declaration sees is seen through uses or declared before it."""
    return one.home.number != other.home.number or one.number < other.number
