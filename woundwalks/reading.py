"""What texts of rows, webs, worlds and papers of marks tell."""

from woundwalks.errors import NoText
from woundwalks.forms import NOTHING, number_from, numbers_from, row_from
from woundwalks.webs import is_web
from woundwalks.words import is_name, is_row
from woundwalks.worlds import is_world


def text_rows(text):
    """The rows of a text, each as the list of what is parted by blanks; refused of what is no text."""
    if not isinstance(text, str):
        raise NoText(0)
    return [row.split(" ") for row in text.split("\n")]


def check_forms(told):
    """Refuse the first row of no form: of which None is told."""
    for number, part in enumerate(told):
        if part is None:
            raise NoText(number)


def check_alone(rows, told):
    """Refuse a first row of no form, of which None is told, then a second row."""
    check_forms([told])
    if len(rows) > 1:
        raise NoText(1)


def read_row(text):
    """The row that is so written; of anything."""
    rows = text_rows(text)
    row = row_from(rows[0])
    check_alone(rows, row)
    if not is_row(row):
        raise NoText(0)
    return row


def world_from(texts):
    """The arms that are so written, None where they are of no such form."""
    return () if texts == [NOTHING] else numbers_from(texts)


def read_world(text, web):
    """The world of the web that is so written; of anything as text."""
    rows = text_rows(text)
    world = world_from(rows[0])
    check_alone(rows, world)
    if not is_world(web, world):
        raise NoText(0)
    return world


def size_from(texts):
    """The number of crossings that is so written, None where it is of no such form."""
    return number_from(texts[0]) if len(texts) == 1 else None


def post_from(texts):
    """The post that is so written, None where it is of no such form."""
    if len(texts) < 3 or not is_name(texts[1]):
        return None
    crossing = number_from(texts[0])
    arms = numbers_from(texts[2:])
    return None if crossing is None or arms is None else (crossing, texts[1], arms)


def check_web(n, posts):
    """Refuse the first row by which it is no web, the rows ahead of it being one."""
    # Looked at first as a whole, for a web has no such row to be sought.
    if is_web((n, posts)):
        return
    for many in range(len(posts) + 1):
        if not is_web((n, posts[:many])):
            raise NoText(many)


def read_web(text):
    """The web that is so written; of anything."""
    rows = text_rows(text)
    told = [size_from(rows[0])] + [post_from(row) for row in rows[1:]]
    check_forms(told)
    n, posts = told[0], tuple(told[1:])
    check_web(n, posts)
    return (n, posts)


def ground_from(texts):
    """The ground that is so written, None where it is of no such form."""
    if texts == ["end"] or texts == ["post"]:
        return (texts[0],)
    if len(texts) != 2 or texts[0] != "back":
        return None
    place = number_from(texts[1])
    return None if place is None else ("back", place)


def mark_from(texts):
    """The row of a paper of marks that is so written, None where it is of no such form."""
    spot = numbers_from(texts[:2])
    ground = ground_from(texts[2:])
    return None if spot is None or ground is None else (*spot, ground)


def read_paper(text):
    """The paper of marks that is so written, of whatever marks; of anything."""
    rows = text_rows(text)
    if rows == [[NOTHING]]:
        return ()
    told = [mark_from(row) for row in rows]
    check_forms(told)
    return tuple(told)
