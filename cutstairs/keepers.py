"""Keepers: webs that are kept and changed, deed by deed, and whose deeds can be taken back."""

from cutstairs.errors import NoPlace, NoTie, NoTop, NoUndo, NoWeb
from cutstairs.stairs import stair_of
from cutstairs.webs import are_places, are_ties, check_name, is_name, is_place, is_tie, is_top, names_of


class Keeper:
    """A TOP with places and ties, at first none, and how they stood ahead of each deed."""

    def __init__(self, top):
        if not is_top(top):
            raise NoTop("no whole number from 1 to 9")
        self.kept = (top, (), ())
        self.past = []

    def change(self, kept):
        """Do a deed: keep this behind what is kept now."""
        self.past.append(self.kept)
        self.kept = kept

    def put(self, place):
        """Put a place."""
        top, places, ties = self.kept
        if not is_place(top, place):
            raise NoPlace("no place under this top")
        more = tuple(sorted((*places, place)))
        # Names that stand twice don't rise, and nine places are none of a web.
        if not are_places(top, more):
            raise NoPlace("a place of this name stands, or eight places do")
        self.change((top, more, ties))

    def take(self, name):
        """Take a place out, with all its ties."""
        check_name(self.kept, name)
        top, places, ties = self.kept
        rest = tuple(place for place in places if place[0] != name)
        self.change((top, rest, tuple(tie for tie in ties if name not in tie[:2])))

    def tie(self, one, other, size):
        """Put a tie in."""
        top, places, ties = self.kept
        names = names_of(self.kept)
        if not is_tie(names, (one, other, size)):
            raise NoTie("no tie among the places")
        more = tuple(sorted((*ties, (one, other, size))))
        # Two ties alike in both ends don't rise by them, and seventeen ties are none of a web.
        if not are_ties(names, more):
            raise NoTie("a tie between them stands, or sixteen ties do")
        self.change((top, places, more))

    def untie(self, one, other):
        """Take a tie out, by its two names."""
        if not (is_name(one) and is_name(other)):
            raise NoTie("no names")
        top, places, ties = self.kept
        rest = tuple(tie for tie in ties if tie[:2] != (one, other))
        if rest == ties:
            raise NoTie("no tie between them stands")
        self.change((top, places, rest))

    def set_top(self, top):
        """Set another TOP, or the same."""
        old, places, ties = self.kept
        if not (is_top(top) and all(is_place(top, place) for place in places)):
            raise NoTop("no whole number from 1 to 9, or some C is too little for it")
        self.change((top, places, ties))

    def undo(self):
        """Take back the last deed that isn't taken back."""
        if not self.past:
            raise NoUndo("no deed is left to take back")
        self.kept = self.past.pop()

    def web(self):
        """The web that is kept."""
        if not self.kept[1]:
            raise NoWeb("no place stands")
        return self.kept

    def stair(self):
        """The stair of the web that is kept."""
        return stair_of(self.web())
