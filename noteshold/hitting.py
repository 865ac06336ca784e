"""Least sets of numbers that have one in common with each of some sets; sets are told as masks."""


def numbers_in(mask):
    return [k for k in range(mask.bit_length()) if mask & (1 << k)]


def mask_by(numbers):
    return sum([1 << k for k in numbers])


def least_masks(masks):
    """Those of some masks of which no other one is a part, each once."""
    kept = {}
    for _, mask in sorted(set([(len(numbers_in(mask)), mask) for mask in masks])):
        if not any([part in kept for part in parts_of_mask(mask)]):
            kept[mask] = True
    return list(kept)


def parts_of_mask(mask):
    """All masks with some of the bits of one; these are to be few."""
    found = [0]
    for k in numbers_in(mask):
        found = found + [part | 1 << k for part in found]
    return found


def least_hitting(masks):
    """All least masks that have a bit in common with each of some masks."""
    rows = {}
    for place, mask in enumerate(masks):
        for k in numbers_in(mask):
            rows[k] = rows.get(k, 0) | 1 << place
    found = []
    gather_hitting(masks, rows, {}, mask_by(list(range(len(masks)))), mask_by(list(rows)), found)
    return found


def gather_hitting(masks, rows, alone, left, free, found):
    """Adds to found all least masks that have the bits of alone, and further ones of the free bits.

    rows tells of each bit the places of the masks that have it, alone of each bit taken those that have no other one
    of the bits taken, left is the places of the masks that have none of these.
    """
    if left == 0:
        found.append(mask_by(list(alone)))
        return
    tight = masks[tightest(masks, left, free)] & free
    rest = free & ~tight
    for k in numbers_in(tight):
        others = {one: alone[one] & ~rows[k] for one in alone}
        # A bit that no mask needs any more would not be least, and will not be.
        if all([others[one] != 0 for one in others]):
            others[k] = left & rows[k]
            gather_hitting(masks, rows, others, left & ~rows[k], rest, found)
            rest = rest | 1 << k


def tightest(masks, left, free):
    """The place, of those left, of the mask that has the fewest free bits."""
    sizes = [(len(numbers_in(masks[place] & free)), place) for place in numbers_in(left)]
    return sorted(sizes)[0][1]


def short_first(tuples):
    """Tuples, or lists, shorter ones first, of as many as Python orders them."""
    told = sorted([(len(row), row) for row in tuples])
    return [row for _, row in told]
