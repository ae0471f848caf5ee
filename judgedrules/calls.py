"""What calls name, and how many arguments they have: faults 6 and 7."""

from judgedrules.faults import BAD_CALL, BAD_COUNT, tell_first
from judgedrules.literals import atom_of, shape_of
from judgedrules.naming import is_before
from judgedrules.nodes import all_declared, gathered, is_gathering

OWN_COUNTS = {"len": 1, "raw": 1, "show": 1, "seconds": 1, "at": 1, "part": 3, "now": 0}
HEADED = {"clause": "rule", "allow": "action", "deny": "action", "must": "action"}


class CallCheck:
    """Goes through a declaration, and keeps the places of faults."""

    def __init__(self, declaration):
        self.declaration = declaration
        self.seen = declaration.home.seen
        self.misnamed = []
        self.miscounted = []

    def check_declaration(self):
        """A declaration's own name, and all calls in it."""
        declaration = self.declaration
        if declaration.form in HEADED:
            self.check_head()
        if declaration.form == "fun" and "from" in declaration.says and not declaration.params:
            self.miscounted.append(declaration.place)
        self.check_expressions(declaration.head)
        self.check_literals(declaration.body)
        self.check_expressions([declaration.says[part] for part in declaration.says])

    def check_head(self):
        """A clause's name must be that of a rule or action of its own module."""
        declaration = self.declaration
        named = self.seen.get(declaration.name)
        home = declaration.home
        if named is None or named.form != HEADED[declaration.form] or named.home.number != home.number:
            self.misnamed.append(declaration.place)
        elif len(named.params) != len(declaration.head):
            self.miscounted.append(declaration.place)

    def check_literals(self, nodes):
        """A body's members."""
        for node in nodes:
            shape = shape_of(self.seen, node)
            atom = atom_of(shape, node)
            if atom is not None:
                self.check_atom(atom)
            elif shape == "gather":
                said, body = gathered(node.parts[1])
                self.check_expressions(said)
                self.check_literals(body)
            else:
                self.check_expression(node)

    def check_atom(self, node):
        """An atom, that must be one of a fact or rule."""
        named = self.seen[node.word]
        if named.form == "action":
            self.misnamed.append(node.place)
        self.check_count(node, len(named.params))
        self.check_expressions(node.parts)

    def check_expressions(self, nodes):
        """Expressions, one by one."""
        for node in nodes:
            self.check_expression(node)

    def check_expression(self, node):
        """An expression, in which no atom and no gathering may stand."""
        if is_gathering(node):
            self.misnamed.append(node.place)
        elif node.form == "call":
            self.check_call(node)
        self.check_expressions(node.parts)

    def check_call(self, node):
        """A call of an own word, a sort or a fun."""
        in_fun = self.declaration.form == "fun"
        named = self.seen.get(node.word)
        if node.word in OWN_COUNTS:
            if in_fun and node.word == "now":
                self.misnamed.append(node.place)
            self.check_count(node, OWN_COUNTS[node.word])
        elif named is None or named.form not in ("sort", "fun"):
            self.misnamed.append(node.place)
        elif named.form == "sort":
            self.check_count(node, 1)
        elif in_fun and not is_before(named, self.declaration):
            self.misnamed.append(node.place)
        else:
            self.check_count(node, len(named.params))

    def check_count(self, node, count):
        """A call must have so many arguments."""
        if len(node.parts) != count:
            self.miscounted.append(node.place)


def check_calls(modules):
    """All calls of a program: first what they name, then how many arguments they have."""
    misnamed = []
    miscounted = []
    for declaration in all_declared(modules):
        checked = CallCheck(declaration)
        checked.check_declaration()
        misnamed.extend(checked.misnamed)
        miscounted.extend(checked.miscounted)
    tell_first(BAD_CALL, misnamed)
    tell_first(BAD_COUNT, miscounted)
