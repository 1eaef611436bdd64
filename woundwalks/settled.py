"""Settled askers: each row that they read has a stretch that they read plainly."""

from woundwalks.askers import is_good, led_to, lower_stands, with_lower
from woundwalks.asking import asked_marks, asked_worst
from woundwalks.errors import Unsettled
from woundwalks.searching import first_row

# Where a stretch begins is free: so plain reading is begun anew behind each name.
BEGIN = (0,)


def unsettled(asker):
    """The shortest, least row that the asker reads and no stretch of which it reads plainly, None."""
    lower = lower_stands(asker)

    def steps_from(here):
        stands, plain = here
        # Once a stretch was read plainly the row has it however it goes on: it is left out.
        if is_good(asker, plain):
            return []
        further = []
        for name, order in asker[3]:
            to = with_lower(lower, led_to(asker, stands, name))
            further.append((name, (to, BEGIN + led_to(asker, plain, name))))
        return further

    def has_no_stretch(here):
        stands, plain = here
        return is_good(asker, stands) and not is_good(asker, plain)

    return first_row((BEGIN, BEGIN), steps_from, has_no_stretch)


def asked_somewhere(web, asker):
    """("sure", crossing), the least marked one, or ("not", world), in which no row is walked that is read plainly."""
    row = unsettled(asker)
    if row is not None:
        raise Unsettled(row)
    for crossing, stand in asked_marks(web, asker):
        if stand == 0:
            return ("sure", crossing)
    return ("not", asked_worst(web, asker))
