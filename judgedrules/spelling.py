"""Texts, names and variables, as they are spelled in trees."""

SMALL = "abcdefghijklmnopqrstuvwxyz"
LARGE = "ABCDEFGHIJKLMNOPQRSTUVWXYZ"
FIGURES = "0123456789"
COMPARING = "=!<>+-*/"
LONGEST_NAME = 64
KEYWORDS = (
    "module", "use", "sort", "fact", "rule", "fun", "action", "allow", "deny", "must", "slot", "if", "then",
    "else", "not", "and", "or", "like", "in", "of", "list", "count", "sum", "least", "greatest", "over", "from",
    "by", "prev", "yes", "no", "yesno", "number", "bytes", "text", "moment", "id",
)


def plain_signs():
    """The signs that stand for themselves in a spelled text, by their codes."""
    signs = {}
    for sign in SMALL + LARGE + FIGURES + "_" + COMPARING:
        signs[ord(sign)] = sign
    return signs


def spelled(signs, codes):
    """A text that's the same for the same bytes alone.

    Bytes that are no plain sign are spelled by their numbers, as not every sign can be written in a program.
    """
    return "".join([signs[code] if code in signs else f"#{code};" for code in codes])


def is_name(text):
    """Whether a text is a name as tokens are."""
    return text not in KEYWORDS and is_token(text, SMALL, SMALL + FIGURES + "_")


def is_variable(text):
    """Whether a text is a variable as tokens are."""
    return is_token(text, LARGE, SMALL + LARGE + FIGURES + "_")


def is_token(text, first, further):
    """Whether a text begins with one of the first signs and goes on with the further ones."""
    if text == "" or len(text) > LONGEST_NAME or text[0] not in first:
        return False
    return all([sign in further for sign in text])


def variable_of(param):
    """The variable of a fun's param."""
    return param[0].upper() + param[1:]
