"""The numbers that limit what the program takes."""

MOST_DEGREE = 4
MOST_KNOT = 10 ** 6
MOST_HILLS = 10
MOST_PLACES = 12
MOST_HEIGHT = 10 ** 20
MOST_OFFERS = 6
