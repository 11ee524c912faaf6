"""Trees, held against the words of the document."""

from itertools import combinations

from things import had


def wrong_in(tree, left, most, whole):
    """What in a tree isn't as told, or None: so many terms aren't enough for the settings left."""
    if type(tree) is not tuple or len(tree) not in (2, 3):
        return "no tuple of two or three"
    if tree[0] == "apart" and len(tree) == 2:
        return wrong_in_apart(tree[1], left, most, whole)
    if tree[0] == "choose" and len(tree) == 3:
        return wrong_in_choose(tree[1], tree[2], left, most, whole)
    return "neither apart nor choose"


def wrong_in_apart(settings, left, most, whole):
    if type(settings) is not tuple or not all(type(setting) is int for setting in settings):
        return "apart without a tuple of settings"
    if len(set(settings)) != len(settings) or not set(settings) <= set(left):
        return "apart with one twice, or with one that isn't left"
    if len(settings) <= most:
        return "apart with no more than there may be terms"
    for two in combinations(settings, 2):
        if any(set(two) <= had(term) for term in whole):
            return "apart with two that one whole term has"
    return None


def wrong_in_choose(setting, branches, left, most, whole):
    if most < 1:
        return "choose where no term may be"
    if type(setting) is not int or setting not in left:
        return "choose with what isn't left"
    if type(branches) is not tuple or not all(type(pair) is tuple and len(pair) == 2 for pair in branches):
        return "choose without a tuple of pairs"
    if [pair[0] for pair in branches] != sorted(term for term in whole if setting in had(term)):
        return "choose with other branches than the whole terms that have the setting, rising"
    for term, tree in branches:
        wrong = wrong_in(tree, set(left) - had(term), most - 1, whole)
        if wrong is not None:
            return wrong
    return None
