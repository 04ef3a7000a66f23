"""What comes by an old plan, by a newer one, by the one behind the other, by both side by side."""

from anywithin.leading import Backs, Leading, comes
from anywithin.least import is_above_told
from anywithin.plays import need_asked, need_seeds
from anywithin.sizes import all_stands, need_many
from anywithin.twoplans import both_plans, need_newer


def upgrade(plan, newer, beginning, asked):
    """Tell (old, new, handed, mixed): whether asked comes by plan, by newer, handed over, by both together."""
    need_newer(plan, newer)
    told = need_asked(plan, beginning, asked)
    seeds = need_seeds(plan, beginning)
    mixed = both_plans(plan, newer)
    backs = Backs()
    return (
        comes(backs.of_plan(plan), seeds, [told]),
        comes(backs.of_plan(newer), seeds, [told]),
        _comes_handed(backs, plan, newer, seeds, told),
        comes(backs.of_plan(mixed), seeds, [told]),
    )


def _comes_handed(backs, plan, newer, seeds, told):
    later = Leading(backs.of_plan(newer), [told]).rounds()[-1]
    return comes(backs.of_plan(plan), seeds, later)


def only_mixed(plan, newer, beginning, many):
    """Tell the least stands of at most many records that come by both plans together, but not handed over."""
    seeds, mixed = _need_all(plan, newer, beginning, many)
    backs = Backs()
    return _least_only(plan.kinds(), many, backs.of_plan(mixed), seeds,
                       lambda heap: _comes_handed(backs, plan, newer, seeds, heap))


def only_together(plan, newer, beginning, many):
    """Tell the least stands of at most many records that come by both plans together, but by neither alone."""
    seeds, mixed = _need_all(plan, newer, beginning, many)
    backs = Backs()
    mine, theirs = backs.of_plan(plan), backs.of_plan(newer)
    return _least_only(plan.kinds(), many, backs.of_plan(mixed), seeds,
                       lambda heap: comes(mine, seeds, [heap]) or comes(theirs, seeds, [heap]))


def _need_all(plan, newer, beginning, many):
    """Tell the told form of beginning, and the plan of both, or refuse the first of the four, or two that clash."""
    need_newer(plan, newer)
    seeds = need_seeds(plan, beginning)
    need_many(many)
    return seeds, both_plans(plan, newer)


def _least_only(kinds, many, backs, seeds, otherwise):
    """Tell the least told stands of at most many records that come by these deeds, and do not come otherwise."""
    found, never = [], []
    for size in range(many + 1):
        free = False
        for heap in all_stands(kinds, size):
            # What lies above a stand that does not come, or does not come otherwise, does no more.
            if is_above_told(found, heap) or is_above_told(never, heap):
                continue
            if not comes(backs, seeds, [heap]):
                never.append(heap)
            elif not otherwise(heap):
                found.append(heap)
            else:
                free = True
        if not free:
            break
    return sorted(found)
