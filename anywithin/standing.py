"""Where on a ground a told stand lies."""

from anywithin.fitting import fitted, placed_paths
from anywithin.trees import paths_in


def standing(heap, ground):
    """Tell a dict from each path of a told stand, ascending, to a number that is here, None if there is none."""
    end = ground.stand()
    places, _ = fitted(heap, end)
    if places is None:
        return None
    numbers = ground.in_order()
    numbered = {path: numbers[index] for index, path in enumerate(paths_in(end))}
    paths = placed_paths(places, (), ())
    return {path: numbered[paths[path]] for path in paths}
