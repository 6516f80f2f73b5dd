"""Walls: what must be known of the roads decided so far to tell which later ones make a way of them."""

from onceways.errors import NoStep, NoWall
from onceways.marks import DONE, decided, first_marks, is_done, marks_of_ends, steps_of
from onceways.ways import check_ends
from onceways.webs import places_on


def check_step(web, i):
    if not 0 <= i <= len(web[1]):
        raise NoStep("as many roads are decided as 0, as all, or between")


def front(web, i):
    check_step(web, i)
    return sorted(set(places_on(web[1][:i])) & set(places_on(web[1][i:])))


def marks_behind(web, ends, i, roads):
    if roads != [number for number in range(i) if number in roads]:
        return None
    known = first_marks(web, ends)
    for number, step in enumerate(steps_of(web, ends)[:i]):
        ahead = [decided(marks, step, ends, number in roads) for marks in known]
        known = [marks for marks in ahead if marks is not None]
    return known[0] if known else None


def wall_in(places, marks):
    wall = [marks[place] for place in places]
    return tuple(wall + [DONE] if is_done(marks) else wall)


def hopeful(web, one, other, i, roads):
    check_ends(web, one, other)
    check_step(web, i)
    return marks_behind(web, marks_of_ends(one, other), i, roads) is not None


def wall_of(web, one, other, i, roads):
    check_ends(web, one, other)
    check_step(web, i)
    marks = marks_behind(web, marks_of_ends(one, other), i, roads)
    if marks is None:
        raise NoWall("no hopeful set of the roads decided")
    return wall_in(front(web, i), marks)


def behind_step(numbers, step, ends):
    ahead = {}
    for known in numbers:
        for chosen in (False, True):
            marks = decided(known, step, ends, chosen)
            if marks is not None:
                ahead[marks] = ahead.get(marks, 0) + numbers[known]
    return ahead


# How many choices behind i roads have each marks, of those by which a way may come to all needed places.
def numbers_behind(web, ends, needed, i):
    numbers = {}
    for marks in first_marks(web, needed):
        numbers[marks] = 1
    for step in steps_of(web, needed)[:i]:
        numbers = behind_step(numbers, step, ends)
    return numbers


def walls(web, one, other, i):
    check_ends(web, one, other)
    check_step(web, i)
    ends = marks_of_ends(one, other)
    numbers = numbers_behind(web, ends, ends, i)
    places = front(web, i)
    return sorted([(wall_in(places, marks), numbers[marks]) for marks in numbers])
