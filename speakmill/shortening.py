"""Makes the rows of blocks shorter."""

from speakmill.folding import folded
from speakmill.jumps import threaded


def shortened(blocks):
    return [(count, size, shortened_rows(rows)) for count, size, rows in blocks]


# What is folded may leave a skip of 0, and a skip that is gone may bring together what can be folded. Whatever either
# of them does to straight rows makes them fewer: where there are as many as before, they are the same.
def shortened_rows(rows):
    done = threaded(rows)
    shorter = threaded(folded(done))
    while len(shorter) < len(done):
        done = shorter
        shorter = threaded(folded(done))
    return done
