"""Keys, by which a reader joins letters."""

from subjecttags.arguments import check_programs, check_starts
from subjecttags.eaters import check_same_tags
from subjecttags.forms import one_behind_other, parting_word
from subjecttags.joining import joined


def keeps(programs, key):
    """None if all programs keep the key, else the first one that does not, and the least subject that shows it."""
    check_programs(programs)
    check_same_tags(programs[0], key)
    tags, form = key.tags(), key.standings()
    for number, eater in enumerate(programs):
        subject = parting_word(tags, form, one_behind_other(tags, eater.standings(), form))
        if subject is not None:
            return number, subject
    return None


def joins(programs, key, starts):
    """The least two starts that the key joins, with a row of deeds for each, or None if it joins no two."""
    check_programs(programs)
    check_same_tags(programs[0], key)
    check_starts(key.tags(), starts)
    return joined(programs, key, starts)
