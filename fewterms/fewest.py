"""The fewest terms that tell a saying, and trees that show that one fewer isn't enough.

Settings that are left to be told are kept as a mask. A cut is a pair of a mask and a whole term: what the term has of
them, never nothing.
"""

from fewterms.masks import how_many_in, lowest_in, mask_of, settings_in
from fewterms.wholes import whole_terms


def cuts_to(left, cuts):
    """The cuts to some of the settings left."""
    return [(mask & left, term) for mask, term in cuts if mask & left != 0]


def once_in(cuts):
    """The mask of the settings that one cut alone has."""
    once = 0
    again = 0
    for mask, _ in cuts:
        again = again | (once & mask)
        once = once | mask
    return once & ~again


def is_in_one(mask, cuts):
    """Whether one of some cuts has all settings of a mask."""
    for other, _ in cuts:
        if mask & ~other == 0:
            return True
    return False


def greatest(cuts):
    """The cuts of which no other one has all that they have; one of those that have the same."""
    found = []
    # A mask that has all of another one is no smaller as a number.
    for mask, term in sorted(cuts, reverse=True):
        if not is_in_one(mask, found):
            found.append((mask, term))
    return found


def hardest(left, cuts):
    """The settings left but those that come along with another one, whichever cut is taken for that one."""
    found = left
    for setting in settings_in(left):
        bit = 1 << setting
        if found & bit != 0:
            along = found
            for mask, _ in cuts:
                if mask & bit != 0:
                    along = along & mask
            found = (found & ~along) | bit
    return found


def eased(left, cuts):
    """What is told without a choice: terms, as many settings, and the settings left behind them, with their cuts.

    The terms and the fewest for what is left behind them are the fewest for all. None of the settings has a whole term
    together with another one of them, or with one left behind them.
    """
    terms = []
    settings = []
    while left != 0:
        once = once_in(cuts)
        if once != 0:
            for mask, term in cuts:
                if mask & once != 0:
                    terms.append(term)
                    settings.append(lowest_in(mask & once))
                    left = left & ~mask
            cuts = cuts_to(left, cuts)
            continue
        fewer_cuts = greatest(cuts)
        fewer_left = hardest(left, fewer_cuts)
        if len(fewer_cuts) == len(cuts) and fewer_left == left:
            break
        left = fewer_left
        cuts = cuts_to(left, fewer_cuts)
    return terms, settings, left, cuts


def lonely_in(left, cuts):
    """Settings left, no two of which one cut has: each time one that has the fewest near it, so as to find many."""
    near = {}
    for setting in settings_in(left):
        near[setting] = 0
        for mask, _ in cuts:
            if (mask >> setting) & 1 == 1:
                near[setting] = near[setting] | mask
    found = []
    while left != 0:
        _, lonely = min([(how_many_in(near[setting] & left), setting) for setting in settings_in(left)])
        found.append(lonely)
        left = left & ~near[lonely]
    return found


def setting_to_choose(left, cuts):
    """The setting left that the fewest cuts have."""
    choices = []
    for setting in settings_in(left):
        having = [term for mask, term in cuts if (mask >> setting) & 1 == 1]
        choices.append((len(having), setting))
    return min(choices)[1]


def apart(settings):
    """The tree of some settings, no two of which one whole term has."""
    return "apart", tuple(sorted(settings))


class Search:
    """Looks, in one saying, for the fewest terms, and for a tree that shows that one fewer isn't enough."""

    def __init__(self, saying):
        self._on = mask_of(saying.on())
        # All whole terms as cuts to the on settings, rising as the terms do.
        self._cuts = cuts_to(self._on, whole_terms(saying))

    def fewest_and_tree(self):
        """The fewest, and the tree for one term fewer."""
        terms, settings, left, cuts = eased(self._on, self._cuts)
        lonely = lonely_in(left, cuts)
        tree = apart(settings + lonely)
        if left == 0:
            return terms, tree
        most = len(lonely)
        more, other_tree = self._chosen(left, cuts, most, settings)
        while more is None:
            tree = other_tree
            most += 1
            more, other_tree = self._chosen(left, cuts, most, settings)
        return terms + more, tree

    def _chosen(self, left, cuts, most, settings):
        """A pair, one of it None: at most so many terms that have all left, or a tree that shows that there are none.

        The tree is for the settings, too, each of which wants a term more, as eased tells.
        """
        chosen = setting_to_choose(left, cuts)
        trees = []
        for mask, term in cuts:
            if (mask >> chosen) & 1 == 1:
                more, tree = self._answer(left & ~mask, cuts, most - 1, settings)
                if more is not None:
                    return [term, *more], None
                trees.append((mask, tree))
        return None, ("choose", chosen, self._branches(chosen, left, trees))

    def _branches(self, chosen, left, trees):
        """The branches for all whole terms that have the chosen setting, out of the trees for the cuts tried."""
        branches = []
        for mask, term in self._cuts:
            if (mask >> chosen) & 1 == 1:
                # What shows it for some settings shows it for more: the term has no more of those left than the cut.
                fitting = [tree for tried, tree in trees if mask & left & ~tried == 0]
                branches.append((term, fitting[0]))
        return tuple(branches)

    def _answer(self, left, cuts, most, settings):
        """The same as of _chosen, where some of what is left may be told without a choice."""
        terms, more_settings, left, cuts = eased(left, cuts_to(left, cuts))
        settings = settings + more_settings
        most = most - len(terms)
        lonely = lonely_in(left, cuts)
        if len(lonely) > most:
            return None, apart(settings + lonely)
        if left == 0:
            return terms, None
        more, tree = self._chosen(left, cuts, most, settings)
        return (None, tree) if more is None else (terms + more, None)


def fewest(saying):
    """A telling of whole terms, rising, of which there is none of fewer terms."""
    terms, _ = Search(saying).fewest_and_tree()
    return sorted(terms)


def shown(saying):
    """A tree that shows that one term fewer than the fewest isn't enough; None where there are none on."""
    if saying.on() == []:
        return None
    _, tree = Search(saying).fewest_and_tree()
    return tree
