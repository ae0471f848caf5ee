"""What a program declares, told as a value."""

from judgedrules.bytewriter import Writer
from judgedrules.kindtelling import put_kind
from judgedrules.leaning import rank_of
from judgedrules.strata import strata_of

# What's told of a module, as the names rise: lists of declarations of one form, and its own name.
TOLD = (("actions", "action"), ("facts", "fact"), ("funs", "fun"), ("module", ""), ("rules", "rule"), ("sorts", "sort"))


class Telling:
    """Tells a taken program's modules."""

    def __init__(self, program):
        self.program = program
        self.strata = strata_of(program.leaning.heavy)
        self.writer = Writer()

    def put_modules(self):
        """A record for each module."""
        self.writer.put_list(len(self.program.modules))
        for module in self.program.modules:
            self.writer.put_record(len(TOLD))
            for name, form in TOLD:
                self.writer.put_signs(name)
                if name == "module":
                    self.writer.put_text(module.name)
                else:
                    self.put_declared(module, form)

    def put_declared(self, module, form):
        """A module's declarations of one form."""
        found = [declaration for declaration in module.declared if declaration.form == form]
        self.writer.put_list(len(found))
        for declaration in found:
            self.put_declaration(declaration)

    def put_declaration(self, declaration):
        """A declaration: its name, the kinds of its params and its own, and a rule's stratum."""
        form = declaration.form
        self.writer.put_list(3 if form == "fun" or form == "rule" else 2)
        self.writer.put_text(declaration.name)
        if form != "sort":
            self.writer.put_list(len(declaration.param_kinds))
            for kind in declaration.param_kinds:
                put_kind(self.writer, self.program.kinds, kind)
        if form == "rule":
            self.writer.put_number(self.strata.get(rank_of(declaration), 0))
        elif declaration.own_kind is not None:
            put_kind(self.writer, self.program.kinds, declaration.own_kind)


def program_told(program):
    """The bytes of the value in which a taken program is told."""
    telling = Telling(program)
    telling.put_modules()
    return telling.writer.codes
