"""A desk that keeps a mart by the names of its kinds."""

from swapmart.counts import many_worths
from swapmart.errors import NoName, NoRow, TooMany, Twice
from swapmart.papers import same
from swapmart.purses import less
from swapmart.texts import is_name, read, shown
from swapmart.wheels import wheels
from swapmart.worths import plain, span

MOST_KINDS = 8
MOST_SWAPS = 16


class Desk:
    """A mart kept by names, told and asked by rows, each a text."""

    def __init__(self):
        self.names = []
        self.swaps = []

    def say(self, row):
        """The answer, a text, to a row."""
        if not isinstance(row, str):
            raise NoRow("no text at all")
        if row == "wheels":
            return _listed(wheels(self._mart())[0]) or "none"
        if row == "many":
            return str(many_worths(self._mart()))
        # Where there is no blank, the word is the whole row, and none of those below, which end in one.
        word, blank, rest = row.partition(" ")
        if word + blank == "kind ":
            return self._kind(rest)
        if word + blank == "swap ":
            return self._swap(_both(rest))
        if word + blank == "same ":
            return self._same(_both(rest))
        if word + blank == "plain ":
            return self._plain(rest)
        if word + blank == "span ":
            return self._span(rest)
        raise NoRow("none of the rows that there are")

    def _mart(self):
        """The mart as it stands."""
        return len(self.names), self.swaps

    def _purses(self, texts):
        """The purses of some texts, all of which are read before a name is looked for."""
        lists = [read(text) for text in texts]
        for pairs in lists:
            for name, _ in pairs:
                if name not in self.names:
                    raise NoName(f"no kind stands by the name {name}")
        return [self._purse(dict(pairs)) for pairs in lists]

    def _purse(self, sums):
        """The purse that has so many tokens of each name, none of the names that aren't told."""
        return [sums.get(name, 0) for name in self.names]

    def _kind(self, name):
        """Put a new kind behind those that stand."""
        if not is_name(name):
            raise NoName("a kind by what is no name")
        if name in self.names:
            raise Twice(f"the kind {name} stands already")
        if len(self.names) >= MOST_KINDS:
            raise TooMany(f"more than {MOST_KINDS} kinds")
        self.names.append(name)
        self.swaps = [swap + [0] for swap in self.swaps]
        return "ok"

    def _swap(self, texts):
        """Put a new swap behind those that stand."""
        one, other = self._purses(texts)
        if len(self.swaps) >= MOST_SWAPS:
            raise TooMany(f"more than {MOST_SWAPS} swaps")
        self.swaps.append(less(other, one))
        return "ok"

    def _same(self, texts):
        """A paper on two texts' purses."""
        one, other = self._purses(texts)
        paper = same(self._mart(), one, other)
        if paper[0] == "same":
            return _listed(["yes"] + paper[1])
        return _listed(["no"] + paper[1] + ["by", paper[2]])

    def _plain(self, text):
        """The plain purse of a text's purse."""
        purse = plain(self._mart(), self._purses([text])[0])
        return shown([(name, many) for name, many in zip(self.names, purse) if many != 0])

    def _span(self, text):
        """The span of a text's purse."""
        return str(span(self._mart(), self._purses([text])[0]))


def _both(texts):
    """The two texts that are joined by the only =, with a blank on either side of it."""
    one, blanked, other = texts.partition(" = ")
    if blanked == "" or texts.count("=") != 1:
        raise NoRow("not two texts joined by one =, with a blank on either side")
    return [one, other]


def _listed(things):
    """Numbers and words, parted by single blanks."""
    return " ".join([str(thing) for thing in things])
