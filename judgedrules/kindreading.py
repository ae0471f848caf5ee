"""Kinds read from the values that tell them."""

from judgedrules.bytereader import RECORD
from judgedrules.faults import NoToldKind
from judgedrules.kindtable import PLAIN_KINDS
from judgedrules.spelling import is_name


def read_kind(kinds, raw):
    """The kind that a value tells."""
    form = tuple(raw.names)
    if raw.text in PLAIN_KINDS:
        return kinds.plain(raw.text)
    if form == ("list",):
        return kinds.list_of(read_kind(kinds, raw.members[0]))
    if form == ("record",):
        return read_record(kinds, raw.members[0])
    if form == ("in", "sort") and all_names([member.text for member in raw.members]):
        return kinds.sort_named(raw.members[0].text, raw.members[1].text)
    raise NoToldKind()


def read_record(kinds, raw):
    """The kind of records whose names, each with its kind, a value tells."""
    if raw.kind != RECORD or not all_names(raw.names):
        raise NoToldKind()
    return kinds.record_of(raw.names, [read_kind(kinds, member) for member in raw.members])


def all_names(texts):
    """Whether all texts are names as tokens are."""
    return all([is_name(text) for text in texts])
