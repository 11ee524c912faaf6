"""The fewest terms that tell a saying, and trees that show that one fewer isn't enough.

On settings that are left to be told are kept as one number here, their mask: it has the bit 2 ** setting of each.
"""

from fewterms.terms import settings_of
from fewterms.wholes import wholes


def mask_of(settings):
    """The mask of some settings."""
    mask = 0
    for setting in settings:
        mask = mask | (1 << setting)
    return mask


def settings_in(mask):
    """The settings of a mask, rising."""
    return [setting for setting in range(mask.bit_length()) if (mask >> setting) & 1 == 1]


class Search:
    """Looks, in one saying, for so many whole terms that are enough, or for a tree that shows that none are."""

    def __init__(self, saying):
        on = saying.on()
        self.all_on = mask_of(on)
        # For each on setting the whole terms that have it, rising, each with its mask, and the mask of them all.
        self._having = {setting: [] for setting in on}
        self._near = {setting: 0 for setting in on}
        for term in wholes(saying):
            mask = mask_of(settings_of(term)) & self.all_on
            for setting in settings_in(mask):
                self._having[setting].append((term, mask))
                self._near[setting] = self._near[setting] | mask
        # What is known of a mask and a number: many ways of taking terms leave the same settings.
        self._apart = {}
        self._answers = {}

    def apart(self, left, wanted):
        """A tuple of so many settings left, no two of which one whole term has, or None."""
        key = (left, wanted)
        if key not in self._apart:
            self._apart[key] = self._find_apart(left, wanted)
        return self._apart[key]

    def _find_apart(self, left, wanted):
        if wanted == 0:
            return ()
        settings = settings_in(left)
        if len(settings) < wanted:
            return None
        # Where no more can be added, each setting or one near it is taken: the fewer are near, the less is to be tried.
        _, lonely = min([(len(settings_in(self._near[setting] & left)), setting) for setting in settings])
        for setting in settings_in(self._near[lonely] & left):
            found = self.apart(left & ~self._near[setting], wanted - 1)
            if found is not None:
                return (setting, *found)
        return None

    def answer(self, left, most):
        """A pair, one of it None: at most so many whole terms that have all settings left, or a tree."""
        key = (left, most)
        if key not in self._answers:
            self._answers[key] = self._find_answer(left, most)
        return self._answers[key]

    def _find_answer(self, left, most):
        if left == 0:
            return [], None
        apart = self.apart(left, most + 1)
        if apart is not None:
            return None, ("apart", tuple(sorted(apart)))
        setting = self._best_choice(left, most)
        branches = []
        for term, mask in self._having[setting]:
            terms, tree = self.answer(left & ~mask, most - 1)
            if tree is None:
                return [term, *terms], None
            branches.append((term, tree))
        return None, ("choose", setting, tuple(branches))

    def _best_choice(self, left, most):
        """The setting left that gives the fewest branches to go on with: this keeps the trees small."""
        choices = []
        for setting in settings_in(left):
            having = self._having[setting]
            going_on = [term for term, mask in having if self.apart(left & ~mask, most) is None]
            choices.append((len(going_on), len(having), setting))
        return min(choices)[2]


def fewest_and_tree(saying):
    """The fewest, and the tree for one term fewer, None where there are none on."""
    search = Search(saying)
    most = 0
    tree_before = None
    terms, tree = search.answer(search.all_on, most)
    while terms is None:
        most += 1
        tree_before = tree
        terms, tree = search.answer(search.all_on, most)
    return sorted(terms), tree_before


def fewest(saying):
    """A telling of whole terms, rising, of which there is none of fewer terms."""
    terms, _ = fewest_and_tree(saying)
    return terms


def shown(saying):
    """A tree that shows that one term fewer than the fewest isn't enough; None where there are none on."""
    _, tree = fewest_and_tree(saying)
    return tree
