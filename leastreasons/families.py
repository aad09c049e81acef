"""Families of sets: their least sets, and the sets that meet all of them."""

from leastreasons.errors import InvalidFamily, InvalidIndex, InvalidMembers
from leastreasons.kinds import are_ascending_below, is_integer_below
from leastreasons.masks import family_of, least_masks, mask_of, meeting_masks, meets_each, shortest_length

GREATEST_SET_SIZE = 10
MOST_SETS = 300


def least_sets(size, family):
    """The family of the least sets of a family."""
    masks = _read_family(size, family)
    return family_of(size, least_masks(masks))


def meeting(size, family):
    """The family of the least sets that have a member in common with each set of the family."""
    masks = _read_family(size, family)
    return family_of(size, least_masks(meeting_masks(size, masks)))


def meets_all(size, family, members):
    """Whether a set has a member in common with each set of the family."""
    masks = _read_family(size, family)
    return meets_each(_read_members(size, members), masks)


def joined(size, one_family, other_family):
    """The family of the least sets of two families together."""
    one_masks = _read_family(size, one_family)
    other_masks = _read_family(size, other_family)
    return family_of(size, least_masks(one_masks + other_masks))


def paired(size, one_family, other_family):
    """The family of the least ones of all unions of a set of the one and a set of the other family."""
    # The least unions are unions of least sets, of which there are far fewer; many unions are equal.
    one_masks = least_masks(_read_family(size, one_family))
    other_masks = least_masks(_read_family(size, other_family))
    unions = {one | other: True for one in one_masks for other in other_masks}
    return family_of(size, least_masks(list(unions)))


def dropped(size, family, members):
    """The family of the least ones of the sets that have none of the members."""
    masks = _read_family(size, family)
    left_out = _read_members(size, members)
    return family_of(size, least_masks([mask for mask in masks if mask & left_out == 0]))


def taken(size, family, members):
    """The family of the least ones of the sets without these members."""
    masks = _read_family(size, family)
    left_out = _read_members(size, members)
    return family_of(size, least_masks([mask - (mask & left_out) for mask in masks]))


def in_some(size, family):
    """The list of the members that are in some least set."""
    masks = least_masks(_read_family(size, family))
    return [member for member in range(size) if any([mask & mask_of(size, [member]) for mask in masks])]


def in_all(size, family):
    """The list of the members that are in all least sets."""
    masks = least_masks(_read_family(size, family))
    return [member for member in range(size) if all([mask & mask_of(size, [member]) for mask in masks])]


def count_meeting(size, family):
    """How many sets, least or not, have a member in common with each set of the family."""
    masks = _read_family(size, family)
    return len(meeting_masks(size, masks))


def shortest_meeting(size, family):
    """The length of a shortest set that has a member in common with each set of the family; None if there is none."""
    masks = _read_family(size, family)
    return shortest_length(size, meeting_masks(size, masks))


def apart(size, family):
    """The greatest number of unlike sets of the family of which no two have a common member."""
    masks = _read_family(size, family)
    # The empty set is apart from every set, so it adds one to what the others reach.
    alone = 1 if 0 in masks else 0
    return alone + _count_apart(size, masks)


def _count_apart(size, masks):
    """The greatest number of masks with members of which no two have a common one."""
    by_highest = [[mask for mask in masks if mask.bit_length() == length] for length in range(size + 1)]
    most = [0]
    for room in range(1, 1 << size):
        # At most one of the masks that are chosen has the highest bit of the room; the others lie in what it leaves.
        length = room.bit_length()
        many = most[room - (1 << (length - 1))]
        for mask in by_highest[length]:
            if mask & room == mask and most[room - mask] >= many:
                many = most[room - mask] + 1
        most.append(many)
    return most[-1]


def _read_family(size, family):
    """The list of the masks of the sets, if the size is one and any value is a family."""
    if not is_integer_below(size, GREATEST_SET_SIZE + 1):
        raise InvalidIndex("a size is an integer from 0 to 10")
    if not isinstance(family, list) or len(family) > MOST_SETS or not all([_is_set(size, part) for part in family]):
        raise InvalidFamily("a family is a list of at most 300 ascending lists of integers below the size")
    return [mask_of(size, part) for part in family]


def _read_members(size, members):
    """The mask of the members, if any value is a set."""
    if not _is_set(size, members):
        raise InvalidMembers("members are an ascending list of integers below the size")
    return mask_of(size, members)


def _is_set(size, value):
    """Whether any value is an ascending list of integers below the size."""
    return isinstance(value, list) and are_ascending_below(value, size)
