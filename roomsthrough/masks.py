"""Sets of outcomes as masks: one bit for each bag, in ascending order, and the highest one for the star."""

from roomsthrough.bags import STAR


def bits_of(rules):
    """The dict from all outcomes, listed in their order, to their bits."""
    return {outcome: 1 << at for at, outcome in enumerate(rules.bags() + [STAR])}


def mask_of(bits, outcomes):
    """The mask of a row of outcomes."""
    mask = 0
    for outcome in outcomes:
        mask |= bits[outcome]
    return mask


def outcomes_in(bits, mask):
    """The list of the outcomes of a mask, in their order."""
    return [outcome for outcome in bits if bits[outcome] & mask]


def least_masks(masks):
    """The list of those masks of which no other one is a part, the smaller ones first."""
    least = []
    # A part of a mask is always a lower number.
    for mask in sorted(masks):
        if not _has_part(mask, least):
            least.append(mask)
    return sorted(least, key=_by_size)


def _by_size(mask):
    """What masks are ordered by: how many outcomes they have, and then the places of these."""
    places = [at for at in range(mask.bit_length()) if mask >> at & 1]
    return (len(places), places)


def _has_part(mask, masks):
    """Tell whether one of the masks is a part of a mask."""
    for part in masks:
        if part & mask == part:
            return True
    return False
