"""Deeds whose who, and news, get other indexes."""


def deed_shifted(deed, kind, led, made):
    """Tell the lists of a told deed without all that is of this kind, each index led to another one.

    led leads the indexes of who, and None, which is where there is none; made leads the indexes of news.
    """
    name, who, asks, turns, pours, moves, news = deed
    return (
        name,
        [(one, led[lies], turn) for one, lies, turn in who if one != kind],
        [(led[place], one, marks) for place, one, marks in asks if one != kind],
        [(led[place], one, turn) for place, one, turn in turns if one != kind],
        [(led[index], one, _spot_shifted(spot, led, made)) for index, one, spot in pours if one != kind],
        [(led[index], _spot_shifted(spot, led, made)) for index, spot in moves if index in led],
        [(one, mark, _spot_shifted(spot, led, made)) for one, mark, spot in news if one != kind],
    )


def _spot_shifted(spot, led, made):
    if spot is None:
        return None if led[None] is None else ("who", led[None])
    word, index = spot
    return (word, led[index] if word == "who" else made[index])
