"""How bad a line is that has to be changed to fit, and the class of a line."""

WORST = 10000


def badness(slack, room):
    """Returns the badness of a slack that is spread over a room."""
    if slack == 0:
        return 0
    if room == 0:
        return WORST
    return min(WORST, (100 * slack * slack * slack) // (room * room * room))


def line_class(slack, bad):
    """Returns the class of a line: 0 is tight, 1 decent, 2 loose and 3 very loose."""
    if bad <= 12:
        return 1
    if slack < 0:
        return 0
    return 2 if bad < 100 else 3
