"""Stage 9: looks at pressures, and how few of them settle a goal."""

from windways.sures import facts_of_sign, signs_left

ANSWERS = (1, -1, 0)


def looks_needed(mine, facts, looks, goal):
    """Return the least number of looks that settle the goal, whatever they show, or None if there is none."""
    for many in range(len(looks) + 1):
        if can_settle(mine, facts, looks, goal, many):
            return many
    return None


def can_settle(mine, facts, looks, goal, many):
    """Tell whether so many looks settle the goal, whatever they show."""
    if is_settled(mine, facts, goal):
        return True
    if many == 0:
        return False
    return any([settles_first(mine, facts, looks, goal, many, look) for look in looks])


def settles_first(mine, facts, looks, goal, many, look):
    """Tell whether so many looks settle the goal if this look is the first one."""
    # An answer that cannot be given makes the facts impossible, by which every goal is settled.
    after = [facts_after(facts, look, answer) for answer in ANSWERS]
    return all([can_settle(mine, more, looks, goal, many - 1) for more in after])


def is_settled(mine, facts, goal):
    """Tell whether the facts settle the goal; facts that are not possible settle every goal."""
    return len(signs_left(mine, facts, goal[0], goal[1])) < 2


def facts_after(facts, look, answer):
    """Return the facts after an answer to a look."""
    return facts + facts_of_sign(look[0], look[1], answer)
