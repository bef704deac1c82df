"""Stage 16: the effect on the air in one way of a plain mine if another way gets wider."""

from windways.errors import NotPlain
from windways.plain import after_reduction, reductions_for, removed_by


def effect_of(mine, v, w):
    """Return 1, 0 or -1: if way v gets wider, the amount of way w gets greater, stays or gets less."""
    return effect_by(mine, reductions_of_plain(mine), v, w)


def effects_of(mine):
    """Return a tuple with, for each way, the tuple of its effects on each way."""
    unions = unions_by(mine, reductions_of_plain(mine))
    ways = range(len(mine[1]))
    return tuple([tuple([effect_through(unions, v, w) for w in ways]) for v in ways])


def reductions_of_plain(mine):
    """Return reductions that reduce the mine; raise NotPlain if there are none."""
    reductions = reductions_for(mine)
    if reductions is None:
        raise NotPlain()
    return reductions


def effect_by(mine, reductions, v, w):
    """Return the effect of way v on way w as it follows from reductions that reduce the mine."""
    return effect_through(unions_by(mine, reductions), v, w)


def unions_by(mine, reductions):
    """Return (unions, last) for reductions that reduce the mine.

    Each union is (word, one, two), for a reduction "beside" or "behind" that makes one
    joint of two: the ways for which these stand. Last are those for which the joint
    that is left stands; all other ways were hung, so they are idle.
    """
    joints = list(mine[1])
    stands_for = [(w,) for w in range(len(joints))]
    unions = []
    for reduction in reductions:
        if reduction[0] != "hung":
            i, j = removed_by(joints, reduction)
            unions.append((reduction[0], stands_for[i], stands_for[j]))
            stands_for.append(stands_for[i] + stands_for[j])
        joints = after_reduction(joints, reduction)
    last = [ways for joint, ways in zip(joints, stands_for) if joint is not None][0]
    return (unions, last)


def effect_through(unions_and_last, v, w):
    """Return the effect of way v on way w, where these are the unions of joints and the ways of the last one."""
    unions, last = unions_and_last
    if v not in last or w not in last:
        return 0
    if v == w:
        return 1
    for word, one, two in unions:
        if word == "behind" and v in one + two and w in one + two:
            # Either this union is the first with both of them, or an earlier one was: that was a beside.
            return -1 if (v in one) == (w in one) else 1
    return 0
