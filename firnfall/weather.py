"""The weather of a year, what it does at a height, and rounds of weather."""

HIGHEST_LINE = 100
MOST_HANDS = 9
MOST_ROWS = 12


def is_weather(row):
    """Tell whether three numbers are the weather of a year."""
    line, snow, sun = row
    return 0 <= line <= HIGHEST_LINE and 0 <= snow <= MOST_HANDS and 0 <= sun <= MOST_HANDS


def is_round(rows):
    """Tell whether a list of rows of three numbers is a round."""
    return 1 <= len(rows) <= MOST_ROWS and all([is_weather(row) for row in rows])


def change(row, height):
    """Tell the hands that fall at a height, or minus those that the sun would take there."""
    line, snow, sun = row
    if height >= line:
        return snow
    return -sun
