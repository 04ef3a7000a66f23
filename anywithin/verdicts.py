"""The verdict: a play that brings what is asked, or a wall."""

from anywithin.leading import backs_of, verdict_of
from anywithin.least import least_told
from anywithin.plays import is_bringing, need_asked, need_seeds
from anywithin.refusals import BadPatterns
from anywithin.stands import is_stand
from anywithin.trees import told_heap
from anywithin.walls import is_barrier
from anywithin.words import is_list, is_list_of, is_one_of


def verdict(plan, beginning, asked):
    """Tell ("told", play) of a play that brings asked, or ("never", wall) of the least wall."""
    told = need_asked(plan, beginning, asked)
    return verdict_of(plan, backs_of(plan), need_seeds(plan, beginning), [told])


def judged(plan, beginning, asked, thing):
    """Tell "told" or "never" of any object that shows that asked can come, or that it never does, None of all else."""
    need_asked(plan, beginning, asked)
    if not is_list_of(thing, 2) or not is_one_of(thing[0], ["told", "never"]):
        return None
    word, shown = thing
    if word == "told":
        return "told" if is_bringing(plan, beginning, asked, shown) else None
    return "never" if is_barrier(plan, beginning, asked, shown) else None


def verdicts(plan, beginning, patterns):
    """Tell the verdict for each of these patterns."""
    seeds = need_seeds(plan, beginning)
    heaps = _need_patterns(plan, patterns)
    backs = backs_of(plan)
    return [verdict_of(plan, backs, seeds, [heap]) for heap in heaps]


def settled(plan, beginning, patterns):
    """Tell (plays, wall): a play for the index of each pattern that can come, one wall for all others."""
    plays = {}
    stands = []
    for index, (word, shown) in enumerate(verdicts(plan, beginning, patterns)):
        if word == "told":
            plays[index] = shown
        else:
            stands.extend(shown)
    return (plays, least_told(stands))


def _need_patterns(plan, patterns):
    """Tell the told forms of patterns, or refuse them."""
    if not is_list(patterns):
        raise BadPatterns(0)
    for index, pattern in enumerate(patterns):
        if not is_stand(plan.kinds(), pattern):
            raise BadPatterns(index)
    return [told_heap(pattern) for pattern in patterns]
