"""The lack: by how much a vessel's heaps are more than its lots and free turnings account for, and its rows."""

from vesselhall.rows import nought_makers
from vesselhall.sums import free
from vesselhall.ties import lots
from vesselhall.vessels import heaps


def lack(vessel):
    return len(heaps(vessel)) - len(lots(vessel)) - len(free(vessel))


def lot_marks(number, told_lots):
    return [1 if number in lot else 0 for lot in told_lots]


def lack_rows(vessel):
    told_lots = lots(vessel)
    # The marks behind a heap's pieces make the numbers of each lot come to 0, as the pieces those of each stuff.
    return nought_makers([list(heap) + lot_marks(number, told_lots) for number, heap in enumerate(heaps(vessel))])
