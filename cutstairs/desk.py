"""The desk: a web kept by rows of words, each answered with a text."""

from cutstairs.checker import holds
from cutstairs.coming import all_goes, comes_over
from cutstairs.deskwords import read_row, show_fraction, show_fractions, show_names, show_stair, show_when
from cutstairs.keepers import Keeper
from cutstairs.least import least_cut, least_worth, most_cut
from cutstairs.papers import paper_goes, paper_shares, paper_stair
from cutstairs.shapes import many_cuts
from cutstairs.sharing import shares_of
from cutstairs.stairs import stair_of
from cutstairs.webtexts import show_web


def do_put(keeper, name, a, b, c, d):
    keeper.put((name, a, b, c, d))


def do_take(keeper, name):
    keeper.take(name)


def do_tie(keeper, one, other, size):
    keeper.tie(one, other, size)


def do_untie(keeper, one, other):
    keeper.untie(one, other)


def do_top(keeper, top):
    keeper.set_top(top)


def do_undo(keeper):
    keeper.undo()


def tell_web(web):
    return show_web(web).replace("\n", "; ")


def tell_worth(web, price):
    return show_fraction(least_worth(web, price))


def tell_least(web, price):
    return show_names(least_cut(web, price))


def tell_most(web, price):
    return show_names(most_cut(web, price))


def tell_cuts(web, price):
    return str(many_cuts(web, price))


def tell_stair(web):
    return show_stair(stair_of(web))


def tell_over(web, name):
    return show_when(comes_over(web, name))


def tell_goes(web):
    return show_when(all_goes(web))


def tell_shares(web):
    return show_fractions(shares_of(web))


def paper_of(web, word):
    """The house's claim and paper for a word."""
    if word == "stair":
        return paper_stair(web)
    if word == "goes":
        return paper_goes(web)
    return paper_shares(web)


def tell_paper(web, word):
    claim, paper = paper_of(web, word)
    return "holds" if holds(claim, paper) else "no"


DEEDS = {
    "put": do_put,
    "take": do_take,
    "tie": do_tie,
    "untie": do_untie,
    "top": do_top,
    "undo": do_undo,
}

QUESTIONS = {
    "web": tell_web,
    "worth": tell_worth,
    "least": tell_least,
    "most": tell_most,
    "cuts": tell_cuts,
    "stair": tell_stair,
    "over": tell_over,
    "goes": tell_goes,
    "shares": tell_shares,
    "paper": tell_paper,
}


class Desk:
    """A keeper that is spoken to by rows of words."""

    def __init__(self, top):
        self.keeper = Keeper(top)

    def say(self, row):
        """The answer to a row."""
        word, rest = read_row(row)
        if word in DEEDS:
            deed = DEEDS[word]
            deed(self.keeper, *rest)
            return "ok"
        # Without a place this refuses, ahead of what the question refuses.
        web = self.keeper.web()
        question = QUESTIONS[word]
        return question(web, *rest)
