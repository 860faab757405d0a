"""What lists of standings make of words, and their least forms.

Nothing is checked here: tags and standings are right, and there may be any number of standings.
"""


def no_ways(tags):
    """The ways of a standing that stops ahead of each tag."""
    return [None] * len(tags)


def walked(tags, standings, word):
    """The standing that stops in front of the rest of `word`, and how many tags were taken."""
    at = 0
    for many, tag in enumerate(word):
        way = standings[at][1][tags.index(tag)]
        if way is None:
            return at, many
        at = way
    return at, len(word)


def made(tags, standings, subject):
    """What the standings make of a subject."""
    at, many = walked(tags, standings, subject)
    return standings[at][0] + subject[many:]


def is_settled_at(standing):
    """Whether a standing of a least form has no way."""
    return all([way is None for way in standing[1]])


def is_made_at(tags, standing, subject):
    """Whether a standing that can be met makes `subject` of something."""
    word, ways = standing
    if subject[:len(word)] != word:
        return False
    # The standing stops only ahead of a tag for which it has no way.
    stops = [tag for tag, way in zip(tags, ways) if way is None]
    return len(subject) == len(word) or subject[len(word)] in stops


def copied(standings):
    """The standings with new lists."""
    return [(list(word), list(ways)) for word, ways in standings]


def without_needless_ways(tags, standings):
    """The standings without the ways that make what stopping ahead of the tag makes as well."""
    needed = copied(standings)
    settled = [False] * len(standings)
    # A needless way leads to a word that is longer by one tag: so the longer words come first.
    for at in sorted(range(len(standings)), key=lambda number: -len(standings[number][0])):
        word, ways = needed[at]
        for place, tag in enumerate(tags):
            way = ways[place]
            if way is not None and settled[way] and standings[way][0] == word + [tag]:
                ways[place] = None
        settled[at] = is_settled_at(needed[at])
    return needed


def numbered(marks):
    """A number for each mark, the same for equal ones, in the order in which they occur."""
    numbers = {}
    told = []
    for mark in marks:
        if mark not in numbers:
            numbers[mark] = len(numbers)
        told.append(numbers[mark])
    return told


def parted(classes, standings):
    """Classes that part the standings further, by the classes to which their ways lead."""
    marks = []
    for number, (_, ways) in zip(classes, standings):
        marks.append((number, tuple([-1 if way is None else classes[way] for way in ways])))
    return numbered(marks)


def alike_classes(standings):
    """A number for each standing, the same exactly for those with the same rest map.

    The standings have no needless ways.
    """
    classes = numbered([tuple(word) for word, _ in standings])
    many = 0
    while many <= max(classes):
        many = max(classes) + 1
        classes = parted(classes, standings)
    return classes


def in_order_met(standings, classes):
    """One standing for each class that is met from the standing 0 on, in that order.

    What stands beside the ways, be it a word or not, is told as it is.
    """
    numbers = {classes[0]: 0}
    met = [0]
    told = []
    while len(told) < len(met):
        beside, ways = standings[met[len(told)]]
        for way in ways:
            if way is not None and classes[way] not in numbers:
                numbers[classes[way]] = len(met)
                met.append(way)
        told.append((beside, [None if way is None else numbers[classes[way]] for way in ways]))
    return told


def least_form(tags, standings):
    """The least form of an eater."""
    needed = without_needless_ways(tags, standings)
    return in_order_met(needed, alike_classes(needed))


def moved(ways, by):
    """The ways to standings of which the numbers are greater by `by`."""
    return [None if way is None else way + by for way in ways]


def one_behind_other(tags, first, second):
    """The least form of the eater that does `first` and then `second`, both least forms."""
    standings = []
    for word, ways in first:
        at, many = walked(tags, second, word)
        # Where the first one stops, the second one reads its word, and then goes on with the tags left.
        onward = second[at][1] if many == len(word) else no_ways(tags)
        onward = moved(onward, len(first))
        joined = [after if way is None else way for way, after in zip(ways, onward)]
        standings.append((second[at][0] + word[many:], joined))
    for word, ways in second:
        standings.append((word, moved(ways, len(first))))
    return least_form(tags, standings)


def stepped(standings, at, place, stopped):
    """The standing behind one more tag, and what is made then.

    `at` is None behind the place where the standings stopped; `stopped` is what is made if they stop.
    """
    way = None if at is None else standings[at][1][place]
    if way is None:
        return None, stopped
    return way, standings[way][0]


def way_back(came, node):
    """The word by which `node` was met."""
    tags = []
    while came[node] is not None:
        node, tag = came[node]
        tags.append(tag)
    return tags[::-1]


def parting_word(tags, one, other):
    """The least subject of which two least forms make different ones, or None."""
    if one[0][0] != other[0][0]:
        return []
    # Where both have stopped with the same word in front, nothing behind it parts them.
    came = {(0, 0): None, (None, None): None}
    met = [(0, 0)]
    at = 0
    while at < len(met):
        left, right = met[at]
        word = one[left][0] if left is not None else other[right][0]
        for place, tag in enumerate(tags):
            onward, made_left = stepped(one, left, place, word + [tag])
            beside, made_right = stepped(other, right, place, word + [tag])
            if made_left != made_right:
                return way_back(came, met[at]) + [tag]
            if (onward, beside) not in came:
                came[(onward, beside)] = (met[at], tag)
                met.append((onward, beside))
        at += 1
    return None
