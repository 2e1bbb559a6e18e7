"""Scenes: what stands in the seats, in their copies, and on the roads."""

from comeright.errors import NoScene, NoSeat
from comeright.kinds import is_row
from comeright.plain.plain import are_goes, are_words, need_run_of, plain_levels, told_levels
from comeright.plans.plans import is_plans, wide
from comeright.plans.terms import WORTHS, is_worth
from comeright.webs.webs import are_neighbours, is_web, need_seat, pairs

ROAD = 8
# The places of a scene's parts.
PLANS = 0
WEB = 1
WORDS = 2
GOES = 3
ROWS = 4
COPIES = 5
ROADS = 6
PARTS = 7


def is_levels(many, thing):
    """Whether it is a row of so many worths."""
    return is_row(thing, many, many) and all([is_worth(worth) for worth in thing])


def is_letters(many, thing):
    """Whether it is a row of letters, of so many worths each, that a road can hold."""
    return is_row(thing, 0, ROAD) and all([is_levels(many, letter) for letter in thing])


def are_rows(web, many, thing):
    """Whether it is a row of so many worths for each seat of a web."""
    return is_row(thing, web[0], web[0]) and all([is_levels(many, row) for row in thing])


def is_entry(thing):
    """Whether it is a row of two whole numbers and anything."""
    return is_row(thing, 3, 3) and type(thing[0]) is int and type(thing[1]) is int


def are_entries(web, thing):
    """Whether it is a rising row of (seat, neighbour, anything), for each two neighbours of a web just one."""
    if type(thing) is not tuple or not all([is_entry(entry) for entry in thing]):
        return False
    return tuple([(entry[0], entry[1]) for entry in thing]) == pairs(web)


def are_copies(web, many, thing):
    """Whether it is the copies of a scene of a web, each of so many worths."""
    return are_entries(web, thing) and all([is_levels(many, entry[2]) for entry in thing])


def are_roads(web, many, thing):
    """Whether it is the roads of a scene of a web, letters of so many worths on them."""
    return are_entries(web, thing) and all([is_letters(many, entry[2]) for entry in thing])


def is_scene(thing):
    """Whether it is a scene."""
    if not is_row(thing, PARTS, PARTS):
        return False
    plans, web, words, goes, rows, copies, roads = thing
    if not is_plans(plans) or not is_web(web) or not are_words(web, words) or not are_goes(plans, web, goes):
        return False
    many = wide(plans)
    return are_rows(web, many, rows) and are_copies(web, many, copies) and are_roads(web, many, roads)


def need_scene(scene):
    """Refuse what is no scene."""
    if not is_scene(scene):
        raise NoScene("no scene")


def need_two(scene, seat, other):
    """Refuse what is no seat of a scene, then what is no neighbour of that seat."""
    need_seat(scene[WEB], seat)
    if not are_neighbours(scene[WEB], seat, other):
        raise NoSeat(other)


def entry_of(entries, seat, other):
    """What stands in an entry of copies, or of roads, of these two neighbours."""
    for first, second, held in entries:
        if first == seat and second == other:
            return held
    return None


def scene_of_rows(plans, web, words, goes, rows):
    """The scene in which these are the rows, each copy is what the neighbour has, and there are no letters."""
    copies = tuple([(seat, other, rows[other]) for seat, other in pairs(web)])
    roads = tuple([(seat, other, ()) for seat, other in pairs(web)])
    return (plans, web, words, goes, rows, copies, roads)


def scene_of_worth(plans, web, words, goes, worth):
    """The scene in which rows and copies have this one worth alone, and there are no letters."""
    need_run_of(plans, web, words, goes)
    row = (worth,) * wide(plans)
    return scene_of_rows(plans, web, words, goes, (row,) * web[0])


def right_scene(plans, web, words, goes):
    """The right scene without letters."""
    need_run_of(plans, web, words, goes)
    return scene_of_rows(plans, web, words, goes, plain_levels(plans, web, words, goes))


def flat_scene(plans, web, words, goes):
    """The scene without letters in which all worths of rows and copies are 0."""
    return scene_of_worth(plans, web, words, goes, 0)


def loud_scene(plans, web, words, goes):
    """The scene without letters in which all worths of rows and copies are the greatest one."""
    return scene_of_worth(plans, web, words, goes, WORTHS - 1)


def right_rows(scene):
    """The plain run's levels of what surely is a scene."""
    return plain_levels(scene[PLANS], scene[WEB], scene[WORDS], scene[GOES])


def is_right(scene):
    """Whether all rows, copies and letters of a scene are the plain run's levels of whose they are."""
    need_scene(scene)
    right = right_rows(scene)
    if scene[ROWS] != right:
        return False
    if not all([row == right[other] for seat, other, row in scene[COPIES]]):
        return False
    return all([letter == right[seat] for seat, other, letters in scene[ROADS] for letter in letters])


def plain_of(scene):
    """The levels of a scene's plain run."""
    need_scene(scene)
    return right_rows(scene)


def tells(scene):
    """What each seat of a scene tells."""
    need_scene(scene)
    return told_levels(scene[PLANS], scene[GOES], scene[ROWS])


def row_of(scene, seat):
    """The row of a seat."""
    need_scene(scene)
    need_seat(scene[WEB], seat)
    return scene[ROWS][seat]


def copy_of(scene, seat, other):
    """What a seat has of a neighbour."""
    need_scene(scene)
    need_two(scene, seat, other)
    return entry_of(scene[COPIES], seat, other)


def road_of(scene, seat, other):
    """The letters from a seat to a neighbour, the first to be heard ahead."""
    need_scene(scene)
    need_two(scene, seat, other)
    return entry_of(scene[ROADS], seat, other)
