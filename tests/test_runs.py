import itertools
import unittest

from pulseshare import runs as runs_file
from pulseshare.errors import BadFrame, BadRuns, BadShare, NoRoom
from pulseshare.frames import even
from pulseshare.runs import changes, runs, with_runs
from tests.helper import BAD_FRAMES, BAD_SHARES, FAR, Case, all_frames

FAR_FRAMES = tuple([0, far, 1] for far in FAR) + tuple([far] for far in FAR)


def run_lengths(frame):
    """The lengths of the runs, found from behind a beat that is off."""
    if 0 not in frame:
        return [len(frame)]
    off = frame.index(0)
    text = "".join(str(beat) for beat in frame[off:] + frame[:off])
    return [len(run) for run in text.split("0") if run]


def counted_changes(frame):
    """How many beats are unlike the one ahead; ahead of the first is the last."""
    return sum(beat != ahead for beat, ahead in zip(frame, frame[-1:] + frame[:-1]))


def told_parts(total, parts):
    """Of so many things in so many parts the first ones have one more."""
    lengths = [0] * parts
    for thing in range(total):
        lengths[thing % parts] += 1
    return lengths


def told_with_runs(beats, pulses, many):
    """The frame of point 9, in the document's words; None if there can be none."""
    if many == 0:
        return [0] * beats if pulses == 0 else None
    if pulses < many:
        return None
    if many > 1 and beats - pulses < many:
        return None
    frame = []
    for run, gap in zip(told_parts(pulses, many), told_parts(beats - pulses, many)):
        frame += [1] * run + [0] * gap
    return frame


class RunsTest(Case):
    def test_runs_worked_out_by_hand(self):
        self.same(runs([0, 1, 1, 0, 1]), 2)
        self.same(runs([0, 1, 1, 0, 0]), 1)
        self.same(runs([1, 1, 0, 0, 1, 0, 1, 0]), 3)
        self.same(runs([0, 1, 0, 1, 0, 1]), 3)
        self.same(runs([1, 0, 0, 0]), 1)
        self.same(runs([0, 0, 0, 1]), 1)

    def test_a_run_goes_round(self):
        self.same(runs([1, 0, 0, 1]), 1)
        self.same(runs([1, 1, 0, 1]), 1)
        self.same(runs([1, 0, 1]), 1)
        self.same(runs([1, 0, 1, 0, 1]), 2)
        self.same(runs([1] * 31 + [0] + [1] * 32), 1)

    def test_none_on_and_all_on(self):
        for beats in (1, 2, 3, 63, 64):
            self.same(runs([0] * beats), 0)
            self.same(runs([1] * beats), 1)

    def test_two_beats_and_sixty_four(self):
        self.same(runs([0, 1]), 1)
        self.same(runs([1, 0]), 1)
        self.same(runs([0, 1] * 32), 32)
        self.same(runs([1, 0] * 32), 32)
        self.same(runs([1, 1, 0, 0] * 16), 16)
        self.same(runs([1] * 63 + [0]), 1)
        self.same(runs([0] * 63 + [1]), 1)

    def test_all_small_frames(self):
        for frame in all_frames(10):
            self.same(runs(frame), len(run_lengths(frame)), frame)

    def test_what_is_no_frame_is_refused(self):
        for frame in BAD_FRAMES + FAR_FRAMES:
            self.refused(BadFrame, runs, frame)

    def test_a_frame_stays_as_it_was_and_may_be_changed_later(self):
        frame = [1, 0, 1, 0]
        self.same(runs(frame), 2)
        self.same(frame, [1, 0, 1, 0])
        frame[1] = 1
        frame.append(1)
        self.same(runs(frame), 1)
        self.same(frame, [1, 1, 1, 0, 1])


class ChangesTest(Case):
    def test_changes_worked_out_by_hand(self):
        self.same(changes([0, 1, 1, 0, 1]), 4)
        self.same(changes([0, 1, 1, 0, 0]), 2)
        self.same(changes([1, 1, 0, 0, 1, 0, 1, 0]), 6)
        self.same(changes([0, 0, 0, 1]), 2)

    def test_changes_go_round(self):
        self.same(changes([1, 0, 0, 1]), 2)
        self.same(changes([1, 0, 1]), 2)
        self.same(changes([0, 1, 0]), 2)
        self.same(changes([1, 1, 0]), 2)
        self.same(changes([0, 1]), 2)
        self.same(changes([1, 0]), 2)

    def test_none_on_and_all_on(self):
        for beats in (1, 2, 3, 63, 64):
            self.same(changes([0] * beats), 0)
            self.same(changes([1] * beats), 0)

    def test_sixty_four_beats(self):
        self.same(changes([0, 1] * 32), 64)
        self.same(changes([1, 1, 0, 0] * 16), 32)
        self.same(changes([1] * 63 + [0]), 2)
        self.same(changes([0] * 63 + [1]), 2)

    def test_all_small_frames(self):
        for frame in all_frames(10):
            self.same(changes(frame), counted_changes(frame), frame)

    def test_twice_the_runs_but_where_all_are_on(self):
        for frame in all_frames(8):
            self.same(changes(frame), 0 if 0 not in frame else 2 * runs(frame), frame)

    def test_two_are_the_fewest_and_an_even_frame_has_the_most(self):
        for beats in range(2, 10):
            for pulses in range(1, beats):
                told = [changes(frame) for frame in frames_of(beats, pulses)]
                self.assertEqual(min(told), 2, (beats, pulses))
                for turn in range(beats):
                    self.assertEqual(changes(even(beats, pulses, turn)), max(told), (beats, pulses))

    def test_what_is_no_frame_is_refused(self):
        for frame in BAD_FRAMES + FAR_FRAMES:
            self.refused(BadFrame, changes, frame)

    def test_a_frame_stays_as_it_was_and_may_be_changed_later(self):
        frame = [1, 0, 1, 0]
        self.same(changes(frame), 4)
        self.same(frame, [1, 0, 1, 0])
        frame[1] = 1
        frame.append(1)
        self.same(changes(frame), 2)
        self.same(frame, [1, 1, 1, 0, 1])


def frames_of(beats, pulses):
    """All frames of a share."""
    return [
        list(row) for row in itertools.product((0, 1), repeat=beats) if sum(row) == pulses
    ]


class WithRunsTest(Case):
    def test_frames_worked_out_by_hand(self):
        self.same(with_runs(10, 6, 3), [1, 1, 0, 0, 1, 1, 0, 1, 1, 0])
        self.same(with_runs(8, 5, 3), [1, 1, 0, 1, 1, 0, 1, 0])
        self.same(with_runs(8, 5, 2), [1, 1, 1, 0, 0, 1, 1, 0])
        self.same(with_runs(8, 5, 1), [1, 1, 1, 1, 1, 0, 0, 0])
        self.same(with_runs(12, 5, 4), [1, 1, 0, 0, 1, 0, 0, 1, 0, 0, 1, 0])
        self.same(with_runs(7, 3, 3), [1, 0, 0, 1, 0, 1, 0])
        self.same(with_runs(4, 2, 2), [1, 0, 1, 0])

    def test_no_run(self):
        for beats in (1, 2, 8, 63, 64):
            self.same(with_runs(beats, 0, 0), [0] * beats)

    def test_one_run(self):
        self.same(with_runs(1, 1, 1), [1])
        self.same(with_runs(2, 1, 1), [1, 0])
        self.same(with_runs(64, 1, 1), [1] + [0] * 63)
        self.same(with_runs(64, 63, 1), [1] * 63 + [0])
        for beats in (1, 2, 8, 63, 64):
            self.same(with_runs(beats, beats, 1), [1] * beats)

    def test_as_many_runs_as_there_is_room_for(self):
        self.same(with_runs(64, 32, 32), [1, 0] * 32)
        self.same(with_runs(64, 33, 31), [1, 1, 0] * 2 + [1, 0] * 29)
        self.same(with_runs(63, 31, 31), [1, 0, 0] + [1, 0] * 30)
        self.same(with_runs(63, 32, 31), [1, 1, 0] + [1, 0] * 30)
        self.same(with_runs(64, 2, 2), [1] + [0] * 31 + [1] + [0] * 31)
        self.same(with_runs(64, 62, 2), [1] * 31 + [0] + [1] * 31 + [0])
        self.same(with_runs(8, 3, 3), [1, 0, 0, 1, 0, 0, 1, 0])

    def test_no_room_by_hand(self):
        for beats, pulses, many in (
            (1, 1, 0), (8, 1, 0), (8, 8, 0), (64, 64, 0), (64, 1, 0),
            (1, 0, 1), (8, 0, 1), (64, 0, 1), (8, 0, 2), (1, 0, 2),
            (1, 1, 2), (8, 8, 2), (64, 64, 2), (8, 1, 2), (8, 7, 2), (64, 63, 2),
            (8, 3, 4), (8, 5, 4), (8, 4, 5), (64, 32, 33), (63, 31, 32), (63, 32, 32), (64, 33, 32),
            (64, 31, 32), (8, 4, 8), (8, 4, 64), (64, 32, 64), (64, 32, 65),
        ):
            self.refused(NoRoom, with_runs, beats, pulses, many)

    def test_runs_of_thirty_figures(self):
        for beats, pulses in ((1, 0), (1, 1), (8, 4), (64, 32), (64, 64)):
            for far in FAR:
                self.refused(NoRoom if far > 0 else BadRuns, with_runs, beats, pulses, far)

    def test_every_share_as_the_document_tells_it(self):
        for beats in tuple(range(1, 21)) + (31, 32, 63, 64):
            for pulses in range(beats + 1):
                for many in range(beats // 2 + 3):
                    wanted = told_with_runs(beats, pulses, many)
                    if wanted is None:
                        self.refused(NoRoom, with_runs, beats, pulses, many)
                    else:
                        self.same(with_runs(beats, pulses, many), wanted, (beats, pulses, many))

    def test_there_is_room_just_if_some_frame_has_so_many(self):
        for beats in range(1, 10):
            for pulses in range(beats + 1):
                had = {len(run_lengths(frame)) for frame in frames_of(beats, pulses)}
                if pulses == 0:
                    had = {0}
                for many in range(beats + 2):
                    if many not in had:
                        self.refused(NoRoom, with_runs, beats, pulses, many)
                        continue
                    frame = with_runs(beats, pulses, many)
                    self.assertEqual((len(frame), sum(frame), runs(frame)), (beats, pulses, many))

    def test_runs_and_gaps_are_unlike_by_one_at_the_most(self):
        for beats, pulses, many in ((64, 27, 9), (64, 40, 24), (61, 30, 7), (13, 7, 5), (20, 3, 3)):
            frame = with_runs(beats, pulses, many)
            self.assertEqual(runs(frame), many)
            for lengths in (run_lengths(frame), run_lengths([1 - beat for beat in frame])):
                self.assertEqual(len(lengths), many)
                self.assertLessEqual(max(lengths) - min(lengths), 1)

    def test_what_is_no_share_is_refused_first(self):
        for beats, pulses in BAD_SHARES:
            for many in (0, 1, 2, 64, -1) + FAR:
                self.refused(BadShare, with_runs, beats, pulses, many)
        for far in FAR:
            for many in (1, -1, far):
                self.refused(BadShare, with_runs, far, 1, many)
                self.refused(BadShare, with_runs, far, far, many)
                self.refused(BadShare, with_runs, 8, far, many)

    def test_runs_below_nought_are_refused_ahead_of_no_room(self):
        for beats, pulses in ((1, 0), (1, 1), (8, 0), (8, 3), (8, 8), (64, 0), (64, 32), (64, 64)):
            for many in (-1, -2, -8, -64):
                self.refused(BadRuns, with_runs, beats, pulses, many)

    def test_a_told_list_may_be_changed(self):
        for beats, pulses, many, wanted in (
            (4, 2, 2, [1, 0, 1, 0]), (2, 0, 0, [0, 0]), (2, 2, 1, [1, 1]), (3, 1, 1, [1, 0, 0]),
        ):
            for _ in range(2):
                told = with_runs(beats, pulses, many)
                self.same(told, wanted)
                told[0] = 9
                told.append(9)


class InterfaceTest(Case):
    def test_arguments_have_their_names(self):
        self.same(runs(frame=[1, 0, 1, 0]), 2)
        self.same(changes(frame=[1, 0, 1, 0]), 4)
        self.same(with_runs(many=2, pulses=2, beats=5), [1, 0, 0, 1, 0])

    def test_each_is_defined_in_its_file(self):
        for name in ("runs", "changes", "with_runs"):
            self.assertEqual(getattr(runs_file, name).__module__, "pulseshare.runs")


if __name__ == "__main__":
    unittest.main()
