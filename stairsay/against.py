"""What speaks against a saying: settings in which its sides are worth different things."""

from stairsay.errors import TooLong
from stairsay.runs import run
from stairsay.things import things


def against(program, saying, most, calls):
    names, left, right = saying
    rows = [things(program.stock, kind, most) for name, kind in names]
    for number in range(count_of_settings(rows)):
        setting = dict(zip([name for name, kind in names], picked(rows, number)))
        if sides_differ(program, setting, left, right, calls):
            return setting
    return None


def count_of_settings(rows):
    count = 1
    for row in rows:
        count *= len(row)
    return count


# One thing of each row, as the figures of the number pick them: the last figure changes first.
def picked(rows, number):
    last_first = []
    rest = number
    for row in reversed(rows):
        last_first.append(row[rest % len(row)])
        rest = rest // len(row)
    return list(reversed(last_first))


def sides_differ(program, setting, left, right, calls):
    try:
        return run(program, setting, left, calls) != run(program, setting, right, calls)
    except TooLong:
        return False
