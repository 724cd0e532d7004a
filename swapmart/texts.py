"""Texts that tell purses of named tokens: read and shown."""

from swapmart.errors import NoText

MOST_SIGNS = 200
MOST_FIGURES = 60
MOST_LETTERS = 8
FIGURES = "0123456789"
LETTERS = "abcdefghijklmnopqrstuvwxyz"


def read(text):
    """The list of pairs (name, many) that a text tells, sorted by names, each name once, none with 0."""
    if not isinstance(text, str) or len(text) > MOST_SIGNS:
        raise NoText("no text, or one of too many signs")
    words = _words(text)
    if words == ["0"]:
        return []
    # Ahead of the first term may stand a - but no +, which is put there for no sign.
    signed = words if words[:1] == ["-"] else ["+"] + words
    sums = {}
    at = 0
    while at < len(signed):
        name, many, next_at = _term(signed, at)
        sums[name] = sums.get(name, 0) + many
        at = next_at
    return [(name, sums[name]) for name in sorted(sums) if sums[name] != 0]


def shown(pairs):
    """The text of a list of pairs (name, many), none with 0."""
    text = ""
    for name, many in pairs:
        text = text + _sign(many, text == "") + _shown_term(name, abs(many))
    return text if pairs else "0"


def is_name(word):
    """Whether a text is a name: one to eight small letters."""
    return 1 <= len(word) <= MOST_LETTERS and all([sign in LETTERS for sign in word])


def _words(text):
    """The signs + and -, and what stands between them and blanks."""
    apart = text.replace("+", " + ").replace("-", " - ")
    return [word for word in apart.split(" ") if word != ""]


def _term(words, at):
    """Tell (name, many, next_at): what the sign and the term at a place tell, and where the next sign stands."""
    sign, first, second = (words[at:at + 3] + ["", ""])[:3]
    if sign != "+" and sign != "-":
        raise NoText("a term without a sign ahead of it")
    turn = -1 if sign == "-" else 1
    if is_name(first):
        return first, turn, at + 2
    if not _is_number(first) or not is_name(second):
        raise NoText("no term behind a sign")
    return second, turn * int(first), at + 3


def _is_number(word):
    """Whether a text is a number of a term: one to sixty figures, the first no 0."""
    figures = 1 <= len(word) <= MOST_FIGURES and all([sign in FIGURES for sign in word])
    return figures and word[0] != "0"


def _sign(many, is_first):
    """What stands ahead of a term."""
    if is_first:
        return "- " if many < 0 else ""
    return " - " if many < 0 else " + "


def _shown_term(name, many):
    """A term without its sign."""
    return name if many == 1 else f"{many} {name}"
