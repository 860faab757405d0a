"""What the document says of eaters, by its own words and as slowly as it likes, for the tests."""

from itertools import product


def doing(tags, standings, subject):
    """An eater done on a subject, as in [6]."""
    at = 0
    left = list(subject)
    while left and standings[at][1][tags.index(left[0])] is not None:
        at = standings[at][1][tags.index(left.pop(0))]
    return standings[at][0] + left


def words(tags, most):
    """All words of at most so many tags, the least first [2]."""
    return [list(word) for many in range(most + 1) for word in product(tags, repeat=many)]


def rest_map(make, word, rests):
    """The rest map [8] of a word, as far as the rests tell it."""
    return tuple(tuple(make(word + rest)) for rest in rests)


def putting(word, rests):
    """The rest map that puts a word in front of each rest."""
    return tuple(tuple(word + rest) for rest in rests)


def least(tags, make, depth):
    """The least form [9] of a map, if rests of at most `depth` tags tell its rest maps apart."""
    rests = words(tags, depth)
    met = [[]]
    numbers = {rest_map(make, [], rests): 0}
    told = []
    for word in met:
        ways = []
        for tag in tags:
            onward = rest_map(make, word + [tag], rests)
            if onward == putting(make(word) + [tag], rests):
                ways.append(None)
                continue
            if onward not in numbers:
                numbers[onward] = len(met)
                met.append(word + [tag])
            ways.append(numbers[onward])
        told.append((make(word), ways))
    return told


def random_standings(rng, tags, many, longest):
    """Standings that are often alike, and often have ways that change nothing."""
    standings = [[[rng.choice(tags) for _ in range(rng.randint(0, longest))], [None] * len(tags)]
                 for _ in range(many)]
    for at in range(many):
        for place, tag in enumerate(tags):
            way = rng.choice([None] + list(range(many)))
            standings[at][1][place] = way
            if way and rng.random() < 0.4 and len(standings[at][0]) < longest:
                standings[way][0] = standings[at][0] + [tag]
            elif way and rng.random() < 0.3:
                standings[way][0] = list(standings[at][0])
    return [tuple(standing) for standing in standings]


def plain_standings(rng, tags, many, longest):
    """Standings without any order in them, of which eaters often make longer subjects."""
    return [([rng.choice(tags) for _ in range(rng.randint(0, longest))],
             [rng.choice([None, None] + list(range(many))) for _ in tags]) for _ in range(many)]


def row_done(tags, forms, subject, row):
    """A row of deeds, as in [14]."""
    for program in row:
        subject = doing(tags, forms[program], subject)
    return subject


def arising(tags, forms, starts, most):
    """Subjects that can arise, with the fewest deeds for each, and how many deeds were gone through, if not all."""
    found = {tuple(start): 0 for start in starts}
    queue = list(found)
    for subject in queue:
        if len(found) > most:
            return found, found[subject]
        for form in forms:
            made = tuple(doing(tags, form, list(subject)))
            if made not in found:
                found[made] = found[subject] + 1
                queue.append(made)
    return found, None


def lets(tags, machine, word):
    """Whether a machine lets a word."""
    at = 0
    for tag in word:
        at = machine[at][1][tags.index(tag)]
        if at is None:
            return False
    return machine[at][0]


def finite_machine(tags, subjects):
    """The machine [15] of so many subjects: each standing is what can be put behind the words that lead to it."""
    met = [frozenset(tuple(subject) for subject in subjects)]
    numbers = {met[0]: 0}
    told = []
    for rests in met:
        ways = []
        for tag in tags:
            onward = frozenset(rest[1:] for rest in rests if rest[:1] == (tag,))
            if onward and onward not in numbers:
                numbers[onward] = len(met)
                met.append(onward)
            ways.append(numbers[onward] if onward else None)
        told.append((() in rests, ways))
    return told


def all_parted(machine):
    """Whether no two standings of a machine let the same words."""
    classes = [0] * len(machine)
    while True:
        marks = [(classes[at], ends, tuple(None if way is None else classes[way] for way in ways))
                 for at, (ends, ways) in enumerate(machine)]
        numbers = {mark: number for number, mark in enumerate(dict.fromkeys(marks))}
        parted = [numbers[mark] for mark in marks]
        if len(numbers) == len(set(classes)):
            return len(numbers) == len(machine)
        classes = parted


def lead_to_ends(machine):
    """Whether from each standing of a machine an end can be met."""
    good = {at for at, (ends, _) in enumerate(machine) if ends}
    many = -1
    while many < len(good):
        many = len(good)
        good |= {at for at, (_, ways) in enumerate(machine) if any(way in good for way in ways)}
    return many == len(machine)


def numbered_as_met(machine):
    """Whether the standings are numbered in the order in which they are met [9]."""
    met = [0]
    for _, ways in machine:
        met += [way for way in dict.fromkeys(ways) if way is not None and way not in met]
    return met == list(range(len(machine)))


def word_alone(tags, form, word):
    """What a deed makes of a word alone [16], or None if the word is not settled for it."""
    at = 0
    left = list(word)
    while left and form[at][1][tags.index(left[0])] is not None:
        at = form[at][1][tags.index(left.pop(0))]
    if not left and form[at][1] != [None] * len(tags):
        return None
    return form[at][0] + left


def is_growth(tags, forms, starts, told):
    """Whether a row and a ring of deeds show that the number of tags grows for ever [16]."""
    start, row, ring, word = told
    if not ring or not word or row_done(tags, forms, starts[start], row)[:len(word)] != word:
        return False
    more = word
    for program in ring:
        more = word_alone(tags, forms[program], more)
        if more is None:
            return False
    return len(more) > len(word) and more[:len(word)] == word
