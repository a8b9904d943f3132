"""Ranges of bytes, each a tuple of its first and its last byte."""


def joined_ranges(ranges):
    joined = []
    for lo, hi in sorted(ranges):
        if joined and lo <= joined[-1][1] + 1:
            before = joined.pop()
            joined.append((before[0], max(before[1], hi)))
        else:
            joined.append((lo, hi))
    return joined


def told_ranges(ranges):
    joined = joined_ranges(ranges)
    told = [len(joined)]
    for pair in joined:
        told.extend(pair)
    return told
