"""Plays of a stand that come from a greater one, and two plays beside one another."""

from anywithin.before import need_first
from anywithin.beginnings import begins
from anywithin.clearings import do_cleared
from anywithin.errors import BadLater, NotLocal, NotMore
from anywithin.fitting import fitted, placed_paths
from anywithin.grounds import Ground
from anywithin.plans import need_plan
from anywithin.plays import do_step, is_play, need_play
from anywithin.steps import led_over
from anywithin.trees import heap_size, paths_in, places_of, rows_of, told_heap


def from_more(plan, beginning, play, first):
    """Tell a play from first that does the same deeds, and deletions, in whose end that of play lies."""
    less, steps = need_play(plan, beginning, play)
    more = need_first(plan, first)
    places, _ = fitted(less, more)
    if places is None or not begins(plan.kinds(), beginning, more):
        raise NotMore(first)
    numbers = {path: number for number, path in enumerate(paths_in(more))}
    paths = placed_paths(places, (), ())
    led = {number: numbers[paths[path]] for number, path in enumerate(paths_in(less))}
    return (more, _steps_from_more(plan, (less, steps), more, led))


def _steps_from_more(plan, play, more, led):
    """Tell the steps that do for the records of led what play does for its own, asks let by deletions."""
    mine = Ground(plan, play[0])
    ground = Ground(plan, more)
    now = dict(led)
    found = []
    for step in play[1]:
        given = ground.given()
        made = do_step(mine, step)
        if step[0] == "do":
            found.extend(do_cleared(ground, plan.deed(step[1]), [now[number] for number in step[2]]))
        else:
            found.append(led_over(step, now))
            do_step(ground, found[-1])
        now.update({number: given + index for index, number in enumerate(made)})
    return found


def is_local(plan, name):
    """Tell whether no ask and no turn of this deed looks everywhere."""
    need_plan(plan)
    deed = plan.deed(name)
    return all([place is not None for place, _, _ in [*deed[2], *deed[3]]])


def both_played(plan, beginning, play, later):
    """Tell the play that has the steps of both, each for its own records, None if there is no beginning for both."""
    mine = need_play(plan, beginning, play)
    if not is_play(plan, beginning, later):
        raise BadLater(later)
    theirs = need_play(plan, beginning, later)
    for step in [*mine[1], *theirs[1]]:
        if step[0] == "do" and not is_local(plan, step[1]):
            raise NotLocal(step[1])
    both = told_heap([*mine[0], *theirs[0]])
    if not begins(plan.kinds(), beginning, both):
        return None
    led, led_later = _numbers_beside(mine[0], theirs[0])
    ground = Ground(plan, both)
    found = [*_steps_beside(plan, mine, ground, led), *_steps_beside(plan, theirs, ground, led_later)]
    return (both, found)


def _numbers_beside(heap, mate):
    """Tell, for the numbers of each of two told stands, those of the same records in the stand of both."""
    many = heap_size(heap)
    rows = {number: row for number, row in enumerate(rows_of(heap))}
    for number, (kind, mark, holder) in enumerate(rows_of(mate)):
        rows[many + number] = (kind, mark, None if holder is None else many + holder)
    places = places_of(rows)
    return (
        {number: places[number] for number in range(many)},
        {number: places[many + number] for number in range(heap_size(mate))},
    )


def _steps_beside(plan, play, ground, led):
    """Do the steps of a play for the records of led; tell these steps."""
    mine = Ground(plan, play[0])
    now = dict(led)
    found = []
    for step in play[1]:
        given = ground.given()
        made = do_step(mine, step)
        found.append(led_over(step, now))
        do_step(ground, found[-1])
        now.update({number: given + index for index, number in enumerate(made)})
    return found
