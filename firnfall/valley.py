"""What a valley is, the lanes that lead down it, and where they meet."""

from firnfall.errors import NoLane

MOST_REACHES = 8
MOST_HEIGHTS = 12
GREATEST_HEIGHT = 99
MOST_LANES = 6
LONGEST_LANE = 30


def is_valley(reaches):
    """Tell whether a list of pairs of a number and a tuple of numbers is a valley."""
    if not 1 <= len(reaches) <= MOST_REACHES:
        return False
    # Only reaches that are well by themselves lead down to an end, so lanes are asked for last.
    if not all([is_reach(number, reach) for number, reach in enumerate(reaches)]):
        return False
    return fits(reaches, lanes(reaches))


def is_reach(number, reach):
    """Tell whether a pair may be the reach of this number."""
    to, slope = reach
    if not leads_on(number, to) or not 1 <= len(slope) <= MOST_HEIGHTS:
        return False
    return all([0 <= height <= GREATEST_HEIGHT for height in slope])


def leads_on(number, to):
    """Tell whether the reach of this number may lead into the reach `to`."""
    if number == 0:
        return to == -1
    return 0 <= to < number


def fits(reaches, ways):
    """Tell whether the lanes that go these ways are few and short enough."""
    return len(ways) <= MOST_LANES and all([count_places(reaches, way) <= LONGEST_LANE for way in ways])


def lanes(reaches):
    """Tell, for each lane from the left to the right, the tuple of its reaches from its head down."""
    entered = [to for to, slope in reaches]
    ways = [way_down(reaches, head) for head in range(len(reaches)) if head not in entered]
    # Read from the end up, two lanes differ first in the reaches by which they come
    # into the first reach that they share, and these alone decide which is left.
    return sorted(ways, key=lambda way: way[::-1])


def way_down(reaches, head):
    """Tell the tuple of the reaches from a head down to the end of the reach 0."""
    way = []
    reach = head
    while reach >= 0:
        way.append(reach)
        reach = reaches[reach][0]
    return tuple(way)


def way_of(reaches, lane):
    """Tell the tuple of a lane's reaches from its head down."""
    ways = lanes(reaches)
    if not 0 <= lane < len(ways):
        # The number itself stays out of the words: Python writes none of very many digits.
        raise NoLane("the valley has no such lane")
    return ways[lane]


def count_places(reaches, way):
    """Tell how many places these reaches have together."""
    return sum([len(reaches[reach][1]) for reach in way])


def heights(reaches, lane):
    """Tell the list of the heights of a lane's places."""
    return [height for reach in way_of(reaches, lane) for height in reaches[reach][1]]


def across(reaches, reach):
    """Tell the list of the lanes that lead through a reach, from the left to the right."""
    return [lane for lane, way in enumerate(lanes(reaches)) if reach in way]


def meeting(reaches, one, other):
    """Tell the first reach that two lanes share, and the place with which it begins in each."""
    way = way_of(reaches, one)
    other_way = way_of(reaches, other)
    shared = [reach for reach in way if reach in other_way][0]
    return (shared, place_of(reaches, way, shared), place_of(reaches, other_way, shared))


def place_of(reaches, way, reach):
    """Tell the place with which a reach begins in the lane that goes this way."""
    return count_places(reaches, way[:way.index(reach)])
