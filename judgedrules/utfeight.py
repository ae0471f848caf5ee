"""Where UTF-8 breaks off."""


def tails_of(lead):
    """From where to where each byte behind a first byte lies; None, if it is no first byte."""
    if lead < 128:
        return []
    if 194 <= lead <= 223:
        return [(128, 191)]
    if 224 <= lead <= 239:
        return [second_of_three(lead), (128, 191)]
    if 240 <= lead <= 244:
        return [second_of_four(lead), (128, 191), (128, 191)]
    return None


def second_of_three(lead):
    """The second of three bytes: none that could be told shorter, none of D800H to DFFFH."""
    if lead == 224:
        return (160, 191)
    if lead == 237:
        return (128, 159)
    return (128, 191)


def second_of_four(lead):
    """The second of four bytes: none that could be told shorter, none above 10FFFFH."""
    if lead == 240:
        return (144, 191)
    if lead == 244:
        return (128, 143)
    return (128, 191)


def broken_at(codes, start, end):
    """The place of the byte with which no UTF-8 goes on, or the end where it ends too soon; else None."""
    at = start
    while at < end:
        tails = tails_of(codes[at])
        if tails is None:
            return at
        at += 1
        for low, high in tails:
            if at == end or not low <= codes[at] <= high:
                return at
            at += 1
    return None
