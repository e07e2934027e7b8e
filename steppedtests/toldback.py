"""Told back: the ladders by which pupils can have been asked what they tell."""

from steppedtests.ladders import Ladder, ladder_run


def fitting(runs, *, levels, count):
    """Yield the ladders by which each told pupil's run is the told one, in ascending order."""
    # The other numbers of this ladder are in their ranges, so it raises what is due.
    plain = Ladder(levels=levels, begin=1, count=count)
    told = [(pupil, tuple([tuple(step) for step in run])) for pupil, run in runs]
    for begin in range(1, levels + 1):
        for up in range(1, 4):
            for down in range(1, 4):
                for most_wrongs in range(count + 1):
                    ladder = plain.changed(begin=begin, up=up, down=down, most_wrongs=most_wrongs)
                    if all([ladder_run(ladder, pupil) == run for pupil, run in told]):
                        yield ladder
