"""Stage 8: plain mines, and the reductions that make them one single joint."""

from windways.mines import inner_places


def can_reduce(mine, reductions):
    """Return the index of the first reduction that cannot be done, or None if they reduce the mine.

    If all can be done, but the mine is not reduced, return the number of reductions.
    """
    joints = list(mine[1])
    for index, reduction in enumerate(reductions):
        if not can_be_done(joints, reduction):
            return index
        joints = after_reduction(joints, reduction)
    return None if is_reduced(mine, joints) else len(reductions)


def is_reduced(mine, joints):
    """Tell whether a single joint is left, and joins the inlet and the outlet."""
    left = [joint for joint in joints if joint is not None]
    return len(left) == 1 and is_between(left[0], mine[2], mine[3])


def is_between(joint, x, y):
    """Tell whether a joint joins the places x and y."""
    return joint in ((x, y), (y, x))


def can_be_done(joints, reduction):
    """Tell whether a reduction can be done. Joints are a list with None in the place of each one that is removed."""
    if reduction[0] == "beside":
        _, i, j = reduction
        return has_joint(joints, i) and has_joint(joints, j) and is_between(joints[i], joints[j][0], joints[j][1])
    if reduction[0] == "behind":
        ends = far_ends(joints, reduction[1])
        return len(ends) == 2 and ends[0] != ends[1]
    _, x, some = reduction
    hung = joints_touching(joints, some)
    return len(hung) > 0 and all([is_within(joints[k], some + (x,)) for k in hung])


def has_joint(joints, k):
    """Tell whether there is a joint with number k, and it is not removed."""
    return k < len(joints) and joints[k] is not None


def far_ends(joints, x):
    """Return the list of the other ends of the joints with place x as an end."""
    return [joint[1] if joint[0] == x else joint[0] for joint in joints if joint is not None and x in joint]


def joints_touching(joints, some):
    """Return the list of the numbers of the joints with an end in some."""
    return [k for k, joint in enumerate(joints) if joint is not None and (joint[0] in some or joint[1] in some)]


def is_within(joint, some):
    """Tell whether both ends of a joint are in some."""
    return joint[0] in some and joint[1] in some


def after_reduction(joints, reduction):
    """Return the joints after a reduction that can be done."""
    left = without_joints(joints, removed_by(joints, reduction))
    if reduction[0] == "beside":
        return left + [joints[reduction[1]]]
    if reduction[0] == "behind":
        return left + [tuple(far_ends(joints, reduction[1]))]
    return left


def removed_by(joints, reduction):
    """Return the list of the numbers of the joints that a reduction that can be done removes."""
    if reduction[0] == "beside":
        return list(reduction[1:])
    return joints_touching(joints, reduction[1:2] if reduction[0] == "behind" else reduction[2])


def without_joints(joints, removed):
    """Return the joints with None in the place of each one that is removed."""
    return [None if k in removed else joint for k, joint in enumerate(joints)]


def reductions_for(mine):
    """Return a tuple of reductions that reduces the mine, or None.

    Where some reductions reduce a mine, any that can be done leads on to that end, so nothing is tried twice.
    """
    joints = list(mine[1])
    done = []
    reduction = next_reduction(mine, joints)
    while reduction is not None:
        done.append(reduction)
        joints = after_reduction(joints, reduction)
        reduction = next_reduction(mine, joints)
    return tuple(done) if is_reduced(mine, joints) else None


def next_reduction(mine, joints):
    """Return a reduction that can be done, or None."""
    for reduction in reductions_to_try(mine, joints):
        if can_be_done(joints, reduction):
            return reduction
    return None


def reductions_to_try(mine, joints):
    """Yield reductions, among them one that can be done if there is any."""
    numbers = [k for k, joint in enumerate(joints) if joint is not None]
    for i in numbers:
        for j in numbers:
            if i < j:
                yield ("beside", i, j)
    for x in inner_places(mine):
        yield ("behind", x)
    for x in range(mine[0]):
        for part in parts_beyond(mine, joints, x):
            yield ("hung", x, part)


def parts_beyond(mine, joints, x):
    """Return the list of the parts without inlet and outlet around each inner place if place x is taken out."""
    parts = []
    for start in inner_places(mine):
        if start != x:
            part = part_around(joints, start, x)
            if mine[2] not in part and mine[3] not in part:
                parts.append(part)
    return parts


def part_around(joints, start, x):
    """Return the ascending tuple of the places that can be reached from start without visiting x."""
    part = [start]
    tried = 0
    while tried < len(part):
        for end in far_ends(joints, part[tried]):
            if end != x and end not in part:
                part.append(end)
        tried += 1
    return tuple(sorted(part))


def is_plain(mine):
    """Tell whether a joined mine is plain: no way can ever turn."""
    return reductions_for(mine) is not None
