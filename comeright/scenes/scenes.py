"""Scenes: what stands in the seats, in their copies, and on the roads."""

from comeright.errors import NoScene, NoSeat
from comeright.kinds import is_row
from comeright.plain.plain import are_goes, are_words, need_run_of, plain_levels, told_levels
from comeright.plans.plans import is_plans, wide
from comeright.plans.terms import WORTHS
from comeright.webs.webs import all_beside, are_neighbours, is_web, need_seat, pairs

ROAD = 8
# The places of a scene's parts.
PLANS = 0
WEB = 1
WORDS = 2
GOES = 3
ROWS = 4
COPIES = 5
ROADS = 6
PARTS = 7


def are_levels(many, rows):
    """Whether each of a row of things is a row of so many worths."""
    if [1 for row in rows if type(row) is not tuple or len(row) != many]:
        return False
    top = WORTHS
    return not [1 for row in rows for worth in row if type(worth) is not int or worth < 0 or worth >= top]


def is_letters(many, thing):
    """Whether it is a row of letters, of so many worths each, that a road can hold."""
    return is_row(thing, 0, ROAD) and are_levels(many, thing)


def held_in(web, rows, copies, roads):
    """None where these are no copies and roads of a web, whatever stands in them; else what is to be looked at in them.

    That is (alike, unlike): copies and letters that are alike to a row of the seat whose they are, but may have truths
    in them where that has 0 or 1, and those that are none of these rows. All others surely are well.
    """
    sly = [0 in row or 1 in row for row in rows]
    alike, unlike = [], []
    at = 0
    for seat, others in enumerate(all_beside(web)):
        for other in others:
            copy, road = copies[at], roads[at]
            at += 1
            if type(copy) is not tuple or len(copy) != 3 or type(road) is not tuple or len(road) != 3:
                return None
            one, two, row = copy
            start, end, letters = road
            if one != seat or two != other or start != seat or end != other or type(letters) is not tuple:
                return None
            # A truth is alike to 0 or 1.
            if type(one) is not int or type(two) is not int or type(start) is not int or type(end) is not int:
                return None
            if row != rows[other]:
                unlike.append(row)
            elif sly[other]:
                alike.append(row)
            if len(letters) > 0:
                if len(letters) > ROAD:
                    return None
                if letters[0] != rows[seat] or letters.count(rows[seat]) < len(letters):
                    unlike.extend(letters)
                elif sly[seat]:
                    alike.extend(letters)
    return (alike, unlike)


def are_held(web, many, rows, copies, roads):
    """Whether these are the rows, copies and roads of a scene of a web, rows of so many worths in all of them."""
    if type(rows) is not tuple or len(rows) != web[0] or not are_levels(many, rows):
        return False
    ways = 2 * len(web[1])
    if type(copies) is not tuple or len(copies) != ways or type(roads) is not tuple or len(roads) != ways:
        return False
    if ways == 0:
        return True
    held = held_in(web, rows, copies, roads)
    if held is None:
        return False
    alike, unlike = held
    return not [1 for row in alike for worth in row if type(worth) is not int] and are_levels(many, unlike)


def is_scene(thing):
    """Whether it is a scene."""
    if type(thing) is not tuple or len(thing) != PARTS:
        return False
    plans, web, words, goes, rows, copies, roads = thing
    if not is_plans(plans) or not is_web(web) or not are_words(web, words) or not are_goes(plans, web, goes):
        return False
    return are_held(web, wide(plans), rows, copies, roads)


def need_scene(scene):
    """Refuse what is no scene."""
    if not is_scene(scene):
        raise NoScene("no scene")


def need_two(scene, seat, other):
    """Refuse what is no seat of a scene, then what is no neighbour of that seat."""
    need_seat(scene[WEB], seat)
    if not are_neighbours(scene[WEB], seat, other):
        raise NoSeat(other)


def entry_of(entries, seat, other):
    """What stands in an entry of copies, or of roads, of these two neighbours."""
    for first, second, held in entries:
        if first == seat and second == other:
            return held
    return None


def scene_of_rows(plans, web, words, goes, rows):
    """The scene in which these are the rows, each copy is what the neighbour has, and there are no letters."""
    near = pairs(web)
    copies = tuple([(seat, other, rows[other]) for seat, other in near])
    roads = tuple([(seat, other, ()) for seat, other in near])
    return (plans, web, words, goes, rows, copies, roads)


def scene_of_worth(plans, web, words, goes, worth):
    """The scene in which rows and copies have this one worth alone, and there are no letters."""
    need_run_of(plans, web, words, goes)
    row = (worth,) * wide(plans)
    return scene_of_rows(plans, web, words, goes, (row,) * web[0])


def right_scene(plans, web, words, goes):
    """The right scene without letters."""
    need_run_of(plans, web, words, goes)
    return scene_of_rows(plans, web, words, goes, plain_levels(plans, web, words, goes))


def flat_scene(plans, web, words, goes):
    """The scene without letters in which all worths of rows and copies are 0."""
    return scene_of_worth(plans, web, words, goes, 0)


def loud_scene(plans, web, words, goes):
    """The scene without letters in which all worths of rows and copies are the greatest one."""
    return scene_of_worth(plans, web, words, goes, WORTHS - 1)


def right_rows(scene):
    """The plain run's levels of what surely is a scene."""
    return plain_levels(scene[PLANS], scene[WEB], scene[WORDS], scene[GOES])


def stands_right(scene):
    """Whether all rows, copies and letters of what surely is a scene are the plain run's of whose they are."""
    right = right_rows(scene)
    if scene[ROWS] != right or [1 for _, other, copy in scene[COPIES] if copy != right[other]]:
        return False
    return not [1 for seat, _, letters in scene[ROADS] if letters.count(right[seat]) < len(letters)]


def is_right(scene):
    """Whether all rows, copies and letters of a scene are the plain run's levels of whose they are."""
    need_scene(scene)
    return stands_right(scene)


def plain_of(scene):
    """The levels of a scene's plain run."""
    need_scene(scene)
    return right_rows(scene)


def tells(scene):
    """What each seat of a scene tells."""
    need_scene(scene)
    return told_levels(scene[PLANS], scene[GOES], scene[ROWS])


def row_of(scene, seat):
    """The row of a seat."""
    need_scene(scene)
    need_seat(scene[WEB], seat)
    return scene[ROWS][seat]


def copy_of(scene, seat, other):
    """What a seat has of a neighbour."""
    need_scene(scene)
    need_two(scene, seat, other)
    return entry_of(scene[COPIES], seat, other)


def road_of(scene, seat, other):
    """The letters from a seat to a neighbour, the first to be heard ahead."""
    need_scene(scene)
    need_two(scene, seat, other)
    return entry_of(scene[ROADS], seat, other)
