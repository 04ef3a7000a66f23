"""Leading each of some to one of its own, or telling which of them have too few (Hall)."""


def matched(reach):
    """Lead each of the left to an own one of the right; reach has the list of fitting ones for each.

    Tell (places, None), places the list of these; or (None, (mine, theirs)): those in mine
    fit nothing but what is in theirs, which are fewer. Both are ascending.
    """
    places = [None] * len(reach)
    holders = {}
    for start in range(len(reach)):
        lefts, rights = _led_anew(reach, places, holders, start)
        if lefts:
            return None, (sorted(lefts), sorted(rights))
    return places, None


def _led_anew(reach, places, holders, start):
    """Lead one more, others elsewhere if need be; if it can't be, tell all that stand in its way."""
    came = {}
    lefts = [start]
    at = 0
    while at < len(lefts):
        left = lefts[at]
        at += 1
        for right in reach[left]:
            if right in came:
                continue
            came[right] = left
            if right not in holders:
                _turn_over(places, holders, came, right)
                return [], []
            lefts.append(holders[right])
    return lefts, list(came)


def _turn_over(places, holders, came, right):
    """Give right to the one that came to it, what that one had to the one that came to that, and so on."""
    while right is not None:
        left = came[right]
        freed = places[left]
        places[left] = right
        holders[right] = left
        right = freed
