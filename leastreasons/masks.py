"""Sets of members below a size as integers, called masks here, with one bit for each member."""

from leastreasons.kinds import ascending_numbers


def mask_of(size, members):
    """The mask of the members."""
    # The first member has the highest bit: of two sets of one length, the first one has the greater mask.
    mask = 0
    for member in members:
        mask = mask | 1 << (size - 1 - member)
    return mask


def members_of(size, mask):
    """The ascending list of the members of a mask."""
    return [member for member in range(size) if mask >> (size - 1 - member) & 1]


def family_of(size, masks):
    """The family of unlike masks: a list with shorter sets first, and sets of the same length ascending."""
    return sorted([members_of(size, mask) for mask in ascending_numbers(masks)[::-1]], key=len)


def meets_each(mask, masks):
    """Whether a mask has a member in common with each of the masks."""
    return all([mask & other != 0 for other in masks])


def least_masks(masks):
    """The list of those masks of which no proper part is among them, each once."""
    least = []
    # A proper part of a mask is a smaller integer, so it has its turn first.
    for mask in ascending_numbers(masks):
        if not any([part & mask == part for part in least]):
            least.append(mask)
    return least


def meeting_masks(size, masks):
    """The list of all masks below a size, least or not, that have a member in common with each of the masks."""
    # A set meets all of them exactly if none of them is part of the set of its other members.
    holding = _tell_holding(size, masks)
    whole = (1 << size) - 1
    return [mask for mask in range(1 << size) if not holding[whole - mask]]


def remaining_members(size, order, masks):
    """The members that remain if all are left out in this order, each one only if the rest still meets all masks."""
    rest = (1 << size) - 1
    for member in order:
        fewer = rest - mask_of(size, [member])
        if meets_each(fewer, masks):
            rest = fewer
    return members_of(size, rest)


def shortest_length(size, masks):
    """The least number of members of a mask; None if there are no masks."""
    return min([len(members_of(size, mask)) for mask in masks], default=None)


def _tell_holding(size, masks):
    """A list that tells for each mask below a size whether one of the masks is part of it."""
    holding = [False] * (1 << size)
    for mask in masks:
        holding[mask] = True
    bits = [1 << at for at in range(size)]
    for mask in range(1 << size):
        if any([holding[mask ^ bit] for bit in bits if mask & bit]):
            holding[mask] = True
    return holding
