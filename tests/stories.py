"""Lamps that see many motions, for tests of long times, of many stretches and of six lamps."""

from lampstays.lamps import log_of

TOP = 10 ** 9

# The example of the document: two lamps that see the same motions.
BOTH = (("hold", 5), ("pulse", 3))
BOTH_LOGS = (((3, 12), (20, 29)), ((3, 6), (7, 10), (20, 23), (24, 27)))
LONG, LONG_LOGS = (("hold", 3),), (((0, 20),),)

# Sixty bursts of motions, far apart from each other, which six lamps see.
SIX = (("hold", 9), ("pulse", 10 ** 7), ("hold", 100), ("hold", 4321), ("pulse", 3 * 10 ** 6), ("hold", 77777))
BURSTS = tuple((16 * 10 ** 6 * at + 10 ** 6, at % 7 + 2, 2 + 997 * at) for at in range(60))
SIX_LOGS = tuple(log_of(lamp, BURSTS) for lamp in SIX)

# Hold lamps that are lit for nearly all minutes, and a pulse lamp that is.
DAY = (("hold", 3),)
DAY_LOGS = (((0, TOP),),)
PULSE = (("pulse", 1),)
PULSE_LOGS = (((0, TOP),),)
EVERY = ((0, 1, TOP + 1),)
