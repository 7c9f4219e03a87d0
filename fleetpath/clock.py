"""Times as texts: days, hours and minutes."""

from fleetpath.checks import checked_number
from fleetpath.errors import LIMIT, BadTime

HOUR = 60
DAY = 1440
FIGURES = "0123456789"
# As many signs as 0.00:00 and 694444.10:40 have, the first and the last time.
SHORTEST_TIME = 7
LONGEST_TIME = 12


def two_figures(number):
    return str(number).zfill(2)


def shown(minute):
    checked_number(minute, 0)
    days = minute // DAY
    hours = two_figures(minute % DAY // HOUR)
    minutes = two_figures(minute % HOUR)
    return f"{days}.{hours}:{minutes}"


def all_figures(text):
    for sign in text:
        if sign not in FIGURES:
            return False
    return True


# The length is asked for first, so that no number is ever made of a very long text.
def has_figures_of_time(text):
    if len(text) < SHORTEST_TIME or len(text) > LONGEST_TIME:
        return False
    return all_figures(text[:-6] + text[-5:-3] + text[-2:])


# Showing the minute again finds other signs than the point and the colon, noughts ahead, and hours and minutes
# that are too great.
def read(text):
    if not has_figures_of_time(text):
        raise BadTime(text)
    minute = int(text[:-6]) * DAY + int(text[-5:-3]) * HOUR + int(text[-2:])
    if minute > LIMIT or shown(minute) != text:
        raise BadTime(text)
    return minute
