"""Kinds by numbers: one kind has one number, however deep it is."""

PLAIN_KINDS = ("nothing", "yesno", "number", "bytes", "text", "moment", "id")
NOTHING = 0
YESNO = 1
NUMBER = 2
BYTES = 3
TEXT = 4
MOMENT = 5


class Kinds:
    """The kinds that a program has come upon.

    A kind may be deeper than calls may be within one another, and longer than can be gone through; so it's
    kept as a row of its form, its names and the numbers of its parts.
    """

    def __init__(self):
        self.rows = []
        self.numbers = {}
        self.hollow = []
        self.sorts = {}
        self.agreed = {}
        for word in PLAIN_KINDS:
            self.number_of(word, (), ())

    def number_of(self, form, names, parts):
        """The number of a kind with these names and parts."""
        row = (form, names, parts)
        if row not in self.numbers:
            self.numbers[row] = len(self.rows)
            self.rows.append(row)
            self.hollow.append(form == "nothing" or any([self.hollow[part] for part in parts]))
        return self.numbers[row]

    def plain(self, word):
        """The kind that one of the kinds' words names."""
        return self.number_of(word, (), ())

    def list_of(self, member):
        """The kind of lists of a kind."""
        return self.number_of("list", (), (member,))

    def record_of(self, names, parts):
        """The kind of records with these names of these kinds."""
        return self.number_of("record", tuple(names), tuple(parts))

    def sort_named(self, home, name):
        """The kind that the sort of a name makes, declared in the module of a name."""
        return self.number_of("sort", (home, name), ())

    def sort_of(self, sort):
        """The kind that a sort's declaration makes."""
        number = self.sort_named(sort.home.name, sort.name)
        self.sorts[number] = sort
        return number

    def member_of(self, kind):
        """The kind of a list's members; None, if it's no list's kind."""
        form, names, parts = self.rows[kind]
        return parts[0] if form == "list" else None

    def field_of(self, kind, name):
        """The kind of a record's field; None, if there is none."""
        form, names, parts = self.rows[kind]
        if form != "record" or name not in names:
            return None
        return parts[names.index(name)]

    def is_row(self, kind):
        """Whether it's texts', bytes' or some lists' kind."""
        return kind == TEXT or kind == BYTES or self.rows[kind][0] == "list"

    def agree(self, one, other):
        """The kind on which two agree; None, if they don't."""
        waiting = [(one, other)]
        while waiting:
            pair = waiting[-1]
            if pair in self.agreed:
                waiting.pop()
                continue
            inner = [both for both in self.pairs_within(pair) if both not in self.agreed]
            if inner:
                waiting.extend(inner)
            else:
                self.agreed[pair] = self.joined(pair)
        return self.agreed[(one, other)]

    def pairs_within(self, pair):
        """The pairs of parts that must agree, so that two kinds do; none, if that isn't asked."""
        one, other = pair
        settled = one == other or not (self.hollow[one] or self.hollow[other])
        if settled or not self.alike(one, other):
            return []
        return list(zip(self.rows[one][2], self.rows[other][2]))

    def alike(self, one, other):
        """Whether two kinds have the same form and names, so that only their parts can differ."""
        return self.rows[one][0] == self.rows[other][0] and self.rows[one][1] == self.rows[other][1]

    def joined(self, pair):
        """On what two kinds agree, once it's known of all pairs within."""
        one, other = pair
        if one == other or other == NOTHING:
            return one
        if one == NOTHING:
            return other
        pairs = self.pairs_within(pair)
        parts = [self.agreed[both] for both in pairs]
        if not pairs or None in parts:
            return None
        form, names, old_parts = self.rows[one]
        return self.number_of(form, names, tuple(parts))
