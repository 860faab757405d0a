"""What the document says of eaters, by its own words and as slowly as it likes, for the tests."""

from itertools import product


def doing(tags, standings, subject):
    """An eater done on a subject, as in [6]."""
    at = 0
    left = list(subject)
    while left and standings[at][1][tags.index(left[0])] is not None:
        at = standings[at][1][tags.index(left.pop(0))]
    return standings[at][0] + left


def words(tags, most):
    """All words of at most so many tags, the least first [2]."""
    return [list(word) for many in range(most + 1) for word in product(tags, repeat=many)]


def rest_map(make, word, rests):
    """The rest map [8] of a word, as far as the rests tell it."""
    return tuple(tuple(make(word + rest)) for rest in rests)


def putting(word, rests):
    """The rest map that puts a word in front of each rest."""
    return tuple(tuple(word + rest) for rest in rests)


def least(tags, make, depth):
    """The least form [9] of a map, if rests of at most `depth` tags tell its rest maps apart."""
    rests = words(tags, depth)
    met = [[]]
    numbers = {rest_map(make, [], rests): 0}
    told = []
    for word in met:
        ways = []
        for tag in tags:
            onward = rest_map(make, word + [tag], rests)
            if onward == putting(make(word) + [tag], rests):
                ways.append(None)
                continue
            if onward not in numbers:
                numbers[onward] = len(met)
                met.append(word + [tag])
            ways.append(numbers[onward])
        told.append((make(word), ways))
    return told


def random_standings(rng, tags, many, longest):
    """Standings that are often alike, and often have ways that change nothing."""
    standings = [[[rng.choice(tags) for _ in range(rng.randint(0, longest))], [None] * len(tags)]
                 for _ in range(many)]
    for at in range(many):
        for place, tag in enumerate(tags):
            way = rng.choice([None] + list(range(many)))
            standings[at][1][place] = way
            if way and rng.random() < 0.4 and len(standings[at][0]) < longest:
                standings[way][0] = standings[at][0] + [tag]
            elif way and rng.random() < 0.3:
                standings[way][0] = list(standings[at][0])
    return [tuple(standing) for standing in standings]
