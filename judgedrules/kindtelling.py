"""Kinds told as values."""

from judgedrules.bytewriter import Writer


def kind_told(kinds, kind):
    """The bytes in which a kind is told."""
    writer = Writer()
    put_kind(writer, kinds, kind)
    return writer.codes


def put_kind(writer, kinds, kind):
    """Tell a kind; it may be deeper than calls may be within one another."""
    waiting = [("", kind)]
    while waiting:
        name, current = waiting.pop()
        if name != "":
            writer.put_signs(name)
        form, names, parts = kinds.rows[current]
        if form == "sort":
            put_sort(writer, names)
        elif form == "list":
            writer.put_record(1)
            waiting.append(("list", parts[0]))
        elif form == "record":
            writer.put_record(1)
            writer.put_signs("record")
            writer.put_record(len(names))
            waiting.extend(list(zip(names, parts))[::-1])
        else:
            writer.put_text(form)


def put_sort(writer, names):
    """Tell a sort's kind: its module's name and its own."""
    writer.put_record(2)
    for name, text in zip(("in", "sort"), names):
        writer.put_signs(name)
        writer.put_text(text)
