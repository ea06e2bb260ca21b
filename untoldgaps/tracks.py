"""Tracks: where the balls stand at a moment, and the paths of single balls."""

from untoldgaps.errors import AtClash
from untoldgaps.motion import Motion
from untoldgaps.ratios import compare
from untoldgaps.rows import check_ball, check_gaps, check_moment
from untoldgaps.runs import Border, followed, take_clash


def _followed_to(row, gaps, moment):
    """Returns the moment as a ratio, and the motion up to it or the Border at or ahead of it."""
    told = check_gaps(row, gaps)
    when = check_moment(moment)
    return when, followed(row, told, when)


def standing_at(row, gaps, moment):
    """Returns the places and the speeds of all balls at a moment, or the Border ahead of it."""
    when, motion = _followed_to(row, gaps, moment)
    if isinstance(motion, Border):
        return motion
    return (motion.places_then(when), motion.speeds_now())


def gaps_at(row, gaps, moment):
    """Returns the gaps at a moment, or the Border ahead of it."""
    when, motion = _followed_to(row, gaps, moment)
    if isinstance(motion, Border):
        return motion
    return motion.gaps_then(when)


def moved_on(row, gaps, moment):
    """Returns the row and the gaps as they are at a moment between clashes, or the Border ahead of it."""
    when, motion = _followed_to(row, gaps, moment)
    if isinstance(motion, Border):
        return motion
    if motion.moments and motion.last_moment() == when:
        raise AtClash(when)
    return (row.with_speeds(motion.speeds_now()), motion.gaps_then(when))


def turned_at(row, gaps, moment):
    """Returns the same as moved_on, with all speeds turned: the run goes back."""
    moved = moved_on(row, gaps, moment)
    if isinstance(moved, Border):
        return moved
    later, left = moved
    return (later.turned(), left)


def _corner(motion, ball, moment):
    """Returns moment, place and speed of a ball just behind a clash."""
    return (moment, motion.places_then(moment)[ball], motion.speeds_now()[ball])


def _path_of(row, gaps, ball):
    """Returns the corners of a ball, or the Border that the run meets."""
    motion = Motion(row, gaps)
    corners = [_corner(motion, ball, (0, 1))]
    event = take_clash(motion, None)
    while isinstance(event, tuple):
        moment, pair = event
        if ball in (pair, pair + 1):
            corners.append(_corner(motion, ball, moment))
        event = take_clash(motion, None)
    return tuple(corners) if event is None else event


def track_of(row, gaps, ball):
    """Returns the path of a ball as corners (moment, place, speed), or the Border of the run."""
    told = check_gaps(row, gaps)
    return _path_of(row, told, check_ball(row, ball))


def reach_of(row, gaps, ball):
    """Returns the least and the greatest place of a ball, None where there is none, or the Border."""
    told = check_gaps(row, gaps)
    path = _path_of(row, told, check_ball(row, ball))
    if isinstance(path, Border):
        return path
    low = high = path[0][1]
    for _, place, _ in path:
        if compare(place, low) < 0:
            low = place
        if compare(place, high) > 0:
            high = place
    last_speed = path[-1][2][0]
    return (None if last_speed < 0 else low, None if last_speed > 0 else high)
