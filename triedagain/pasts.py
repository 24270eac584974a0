"""What things held behind so many steps of a run.

A PAST is a dict that gives things their rows of (number of steps, what the thing held behind so many), the fewest steps
first. It has no things but those that a step changed, so all others hold what they ever held.
"""


def held_behind(past, many, thing, now):
    """What a thing held behind so many steps, where now is what it holds now."""
    if thing not in past:
        return now
    rows = past[thing]
    # The row at low is none of too many steps; the first one stands for all steps ahead of the first change.
    low = 0
    high = len(rows)
    while high - low > 1:
        middle = (low + high) // 2
        if rows[middle][0] <= many:
            low = middle
        else:
            high = middle
    return rows[low][1]
