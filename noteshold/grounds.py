"""All moments that told deeds lead to: which sources houses have there, and which moments come behind which.

Sources are numbered, each once; sets of them are told as masks of these numbers.
"""

from noteshold.stages import stages_from


class Ground:
    """The stages behind told deeds; a second moment is one of a house in the same group as that of the first one."""

    def __init__(self, stage, deeds, barred, is_by_cache):
        self.told = deeds
        self.stages, self.nexts = stages_from(stage, deeds, barred)
        self.trees = []
        self.spots = spots_of(self.stages, is_by_cache, self.trees)
        self.full = (1 << len(self.trees)) - 1
        self.reach = reach_of_stages(self.spots, self.nexts)
        self.later = later_of(self.spots, self.reach, len(self.trees))
        self.answers = answers_of(self.trees)

    def unlike(self, look, number):
        """The mask of the sources in which a look is answered otherwise than in these."""
        if look not in self.answers:
            return 0
        return self.full & ~self.answers[look][self.trees[number].shown(look)]

    def shown_in(self, number):
        """How looks are answered in these sources."""
        tree = self.trees[number]

        def shown(look):
            return tree.shown(look)

        return shown


def spots_of(stages, is_by_cache, trees):
    """For each stage the list of the triples (house, group, number of its sources); trees gets the sources."""
    numbers = {}
    found = []
    for stage in stages:
        row = []
        for name, (_, _, cache) in stage.houses().items():
            tree = stage.sources(name)
            key = tuple(tree.files().items())
            if key not in numbers:
                numbers[key] = len(trees)
                trees.append(tree)
            row.append((name, cache if is_by_cache else "", numbers[key]))
        found.append(row)
    return found


def reach_of_stages(spots, nexts):
    """For each stage the dict from the groups to the masks of the sources of their houses there and behind it."""
    found = []
    for row in spots:
        masks = {}
        for _, group, number in row:
            masks[group] = masks.get(group, 0) | 1 << number
        found.append(masks)
    is_done = False
    while not is_done:
        is_done = True
        for place in range(len(found) - 1, -1, -1):
            told = merged(found[place], [found[other] for _, other in nexts[place]])
            if told != found[place]:
                found[place] = told
                is_done = False
    return found


def merged(masks, others):
    """The masks of groups with all bits that others have."""
    found = dict(masks)
    for other in others:
        for group in other:
            found[group] = found[group] | other[group]
    return found


def later_of(spots, reach, many):
    """For each sources the mask of those that a second moment can have."""
    found = [0 for _ in range(many)]
    for place, row in enumerate(spots):
        for _, group, number in row:
            found[number] = found[number] | reach[place][group]
    return found


def answers_of(trees):
    """The dict from the looks that are not everywhere answered with None to dicts from answers to masks of sources."""
    looks = {}
    for tree in trees:
        for path in tree.files():
            looks["read", path] = True
        for path in tree.folders():
            looks["list", path] = True
    return {look: masks_by_answer(trees, look) for look in looks}


def masks_by_answer(trees, look):
    masks = {}
    for number, tree in enumerate(trees):
        answer = tree.shown(look)
        masks[answer] = masks.get(answer, 0) | 1 << number
    return masks


def shortest_pair(ground, bad):
    """A pair of moments with as few deeds as can be, the second one bad behind the first one, None if there is none.

    bad gives, for each number of sources, the mask of those that are bad behind these. The pair is told as
    (deeds, house, number, deeds, house, number): the deeds that lead to it, the house and its sources, of both.
    """
    best = None
    for way in ways_from(ground, 0):
        for house, group, number in ground.spots[way[-1][1]]:
            mask = bad[number] & ground.reach[way[-1][1]][group]
            if mask and (best is None or len(way) < best[0]):
                end = nearest_end(ground, way[-1][1], group, mask)
                if best is None or len(way) + len(end[0]) < best[0]:
                    best = (len(way) + len(end[0]), (way, house, number, *end))
    if best is None:
        return None
    way, house, number, further, other, second = best[1]
    return (deeds_of(ground, way), house, number, deeds_of(ground, further), other, second)


def ways_from(ground, start):
    """The list of the shortest ways from a stage to all behind it, shorter ones first.

    Each is a tuple of pairs of a deed's number and a stage's.
    """
    found = [((None, start),)]
    seen = {start: True}
    place = 0
    while place < len(found):
        way = found[place]
        for number, other in ground.nexts[way[-1][1]]:
            if other not in seen:
                seen[other] = True
                found.append((*way, (number, other)))
        place += 1
    return found


def nearest_end(ground, start, group, mask):
    """The shortest way from a stage to one with a house of a group that has sources of the mask; and these."""
    found = [((None, start),)]
    seen = {start: True}
    place = 0
    while place < len(found):
        way = found[place]
        for house, other, number in ground.spots[way[-1][1]]:
            if other == group and mask & (1 << number):
                return (way, house, number)
        for deed, stage in ground.nexts[way[-1][1]]:
            if stage not in seen:
                seen[stage] = True
                found.append((*way, (deed, stage)))
        place += 1
    return None


def deeds_of(ground, way):
    return [ground.told[number] for number, _ in way[1:]]
