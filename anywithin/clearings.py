"""Deeds that are done with what would bar them deleted ahead."""


def do_cleared(ground, deed, numbers):
    """Do a told deed of the ground's plan for these numbers; tell the steps that were done.

    Whatever an ask would not let by is deleted first, so none of it may be a record that is needed still. That can
    always be done: asks are of kinds that do not last.
    """
    steps = []
    for place, kind, marks in deed[2]:
        for number in ground.others(deed[0], numbers, place, kind):
            # All of these are of one kind, so none of them goes with another one.
            if ground.record(number)[1] not in marks:
                ground.delete(number)
                steps.append(("delete", number))
    ground.do(deed[0], numbers)
    steps.append(("do", deed[0], list(numbers)))
    return steps
