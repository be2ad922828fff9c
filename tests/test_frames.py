import itertools
import math
import unittest

from pulseshare import frames
from pulseshare.errors import BadFrame, BadShare, BadWidth
from pulseshare.frames import even, exact, is_even, spans, turn_of
from tests.helper import BAD_FRAMES, BAD_SHARES, FAR, Case, all_frames, told_even


def counted(frame, width):
    """How many are on in each window, beat for beat."""
    beats = len(frame)
    return [sum(frame[(at + k) % beats] for k in range(width)) for at in range(beats)]


def even_by_windows(frame):
    return all(
        max(counted(frame, width)) - min(counted(frame, width)) <= 1
        for width in range(1, 2 * len(frame) + 2)
    )


class EvenTest(Case):
    def test_frames_worked_out_by_hand(self):
        self.same(even(8, 3, 0), [0, 0, 1, 0, 0, 1, 0, 1])
        self.same(even(8, 3, 1), [0, 1, 0, 0, 1, 0, 1, 0])
        self.same(even(8, 3, -1), [1, 0, 0, 1, 0, 0, 1, 0])
        self.same(even(8, 3, -2), [0, 1, 0, 0, 1, 0, 0, 1])
        self.same(even(5, 2, 0), [0, 0, 1, 0, 1])
        self.same(even(4, 2, 0), [0, 1, 0, 1])
        self.same(even(4, 2, 3), [1, 0, 1, 0])
        self.same(even(3, 1, 0), [0, 0, 1])
        self.same(even(7, 6, 0), [0, 1, 1, 1, 1, 1, 1])

    def test_one_beat_and_sixty_four(self):
        for turn in (-3, 0, 1, 64, 10 ** 29):
            self.same(even(1, 0, turn), [0])
            self.same(even(1, 1, turn), [1])
            self.same(even(64, 0, turn), [0] * 64)
            self.same(even(64, 64, turn), [1] * 64)
        self.same(even(64, 1, 0), [0] * 63 + [1])
        self.same(even(64, 63, 0), [0] + [1] * 63)
        self.same(even(64, 32, 0), [0, 1] * 32)

    def test_every_share_as_the_document_tells_it(self):
        for beats in range(1, 65):
            for pulses in range(beats + 1):
                for turn in (0, 1, 5, -1, -beats, -beats - 1, -77, beats, 65, 129):
                    told = even(beats, pulses, turn)
                    self.same(told, told_even(beats, pulses, turn), (beats, pulses, turn))
                    self.assertEqual(sum(told), pulses)

    def test_far_turns_go_round(self):
        for beats, pulses in ((1, 1), (7, 3), (12, 8), (60, 23), (63, 31), (64, 27)):
            for turn in FAR + (10 ** 15 + 7, -(10 ** 15) - 7, 2 ** 53 + 1, 2 ** 63, -(2 ** 64) - 1):
                wanted = told_even(beats, pulses, turn % beats)
                self.same(even(beats, pulses, turn), wanted, (beats, pulses, turn))

    def test_a_turn_more_begins_a_beat_later(self):
        for turn in range(-20, 20):
            frame = even(11, 4, turn)
            self.same(even(11, 4, turn + 1), frame[1:] + frame[:1])

    def test_what_is_no_share_is_refused(self):
        for beats, pulses in BAD_SHARES:
            for turn in (0, 1, -5, 10 ** 29):
                self.refused(BadShare, even, beats, pulses, turn)
        for far in FAR:
            self.refused(BadShare, even, far, 1, 0)
            self.refused(BadShare, even, far, far, 0)
            self.refused(BadShare, even, 8, far, 0)

    def test_a_told_list_may_be_changed(self):
        first = even(8, 3, 0)
        first[0] = 5
        first.append(1)
        self.same(even(8, 3, 0), [0, 0, 1, 0, 0, 1, 0, 1])
        self.same(even(1, 1, 0), [1])
        self.assertIsNot(even(1, 1, 0), even(1, 1, 0))


class SpansTest(Case):
    def test_spans_worked_out_by_hand(self):
        frame = [1, 1, 0, 0, 0]
        self.same(spans(frame, 1), (0, 1))
        self.same(spans(frame, 2), (0, 2))
        self.same(spans(frame, 3), (0, 2))
        self.same(spans(frame, 4), (1, 2))
        self.same(spans(frame, 5), (2, 2))
        self.same(spans(frame, 6), (2, 3))
        self.same(spans(frame, 8), (2, 4))
        self.same(spans(frame, 10), (4, 4))

    def test_a_window_goes_round_behind_the_last_beat(self):
        self.same(spans([1, 0, 0, 1], 2), (0, 2))
        self.same(spans([0, 1, 1, 0], 2), (0, 2))
        self.same(spans([0, 1, 1, 1, 1, 0], 2), (0, 2))
        self.same(spans([1, 0, 1, 0, 1], 3), (1, 2))

    def test_none_on_and_all_on(self):
        for beats in (1, 2, 63, 64):
            for width in (1, 2, beats, beats + 1, 9999, 10000):
                self.same(spans([0] * beats, width), (0, 0))
                self.same(spans([1] * beats, width), (width, width))

    def test_all_small_frames_beat_for_beat(self):
        for frame in all_frames(7):
            for width in range(1, 3 * len(frame) + 2):
                counts = counted(frame, width)
                self.same(spans(frame, width), (min(counts), max(counts)), (frame, width))

    def test_long_frames_beat_for_beat(self):
        half = [1] * 32 + [0] * 32
        single = [0] * 63 + [1]
        mixed = [int(k * k % 7 in (1, 2) or k % 11 == 3) for k in range(61)]
        for frame in (half, single, mixed):
            for width in (1, 2, 31, 32, 33, 60, 61, 62, 63, 64, 65, 127, 128, 129, 1000, 9999, 10000):
                counts = counted(frame, width)
                self.same(spans(frame, width), (min(counts), max(counts)), (frame, width))

    def test_the_widest_window(self):
        self.same(spans([1, 0, 0], 10000), (3333, 3334))
        self.same(spans([1, 1, 0], 10000), (6666, 6667))
        self.same(spans([1] * 32 + [0] * 32, 10000), (4992, 5008))

    def test_even_frames_have_the_share_of_each_width_or_one_more(self):
        for beats, pulses in ((1, 0), (1, 1), (8, 3), (12, 8), (13, 5), (64, 27), (64, 63)):
            frame = even(beats, pulses, 3)
            for width in (1, 2, beats, beats + 1, 2 * beats + 5, 9999, 10000):
                low = width * pulses // beats
                fewest, most = spans(frame, width)
                self.assertEqual(fewest, low)
                self.assertIn(most, (low, low + 1))

    def test_what_is_no_frame_is_refused(self):
        for frame in BAD_FRAMES:
            for width in (1, 3, 10000):
                self.refused(BadFrame, spans, frame, width)
        for far in FAR:
            self.refused(BadFrame, spans, [0, far], 1)
            self.refused(BadFrame, spans, [far], 1)

    def test_what_is_no_width_is_refused(self):
        for width in (0, -1, -2, -10000, 10001, 10002, 20000) + FAR:
            for frame in ([0], [1], [1, 0, 0], even(64, 27, 0)):
                self.refused(BadWidth, spans, frame, width)

    def test_the_frame_is_refused_ahead_of_the_width(self):
        for frame in BAD_FRAMES:
            for width in (0, -1, 10001) + FAR:
                self.refused(BadFrame, spans, frame, width)

    def test_a_frame_stays_as_it_was_and_may_be_changed_later(self):
        frame = [1, 1, 0, 0, 0]
        self.same(spans(frame, 2), (0, 2))
        self.same(frame, [1, 1, 0, 0, 0])
        frame[1] = 0
        frame[2] = 1
        self.same(spans(frame, 2), (0, 1))
        frame.append(1)
        self.same(spans(frame, 2), (0, 2))
        self.same(frame, [1, 0, 1, 0, 0, 1])


class IsEvenTest(Case):
    def test_frames_worked_out_by_hand(self):
        for frame in ([0], [1], [0, 0], [0, 1], [1, 1], [1, 0, 1, 0], [1, 0, 1, 1], [1, 0, 0, 1, 0]):
            self.assertIs(is_even(frame), True, frame)
        for frame in ([1, 1, 0, 0], [0, 1, 1, 0], [1, 0, 0, 1], [1, 0, 1, 0, 0, 0], [1, 1, 1, 0, 1, 0]):
            self.assertIs(is_even(frame), False, frame)

    def test_windows_that_are_apart_at_one_width_only(self):
        # Widths of 1 and 2 have at most one apart; 3 has 000 and 101.
        self.assertIs(is_even([0, 0, 0, 1, 0, 1, 0]), False)
        # Gaps of 1, 1, 2 and 2 beats: the same ones, in two orders.
        self.assertIs(is_even([1, 0, 1, 0, 1, 0, 0, 1, 0, 0]), False)
        self.assertIs(is_even([1, 0, 1, 0, 0, 1, 0, 1, 0, 0]), True)

    def test_all_small_frames_by_their_windows(self):
        for frame in all_frames(9):
            self.assertIs(is_even(frame), even_by_windows(frame), frame)

    def test_just_what_even_tells_is_even(self):
        for beats in range(1, 12):
            told = {
                tuple(even(beats, pulses, turn))
                for pulses in range(beats + 1) for turn in range(beats)
            }
            for beat_row in itertools.product((0, 1), repeat=beats):
                self.assertIs(is_even(list(beat_row)), beat_row in told, beat_row)

    def test_what_even_tells_of_many_beats_is_even(self):
        for beats in (61, 62, 63, 64):
            for pulses in range(0, beats + 1, 3):
                self.assertIs(is_even(even(beats, pulses, 2 * pulses - 9)), True, (beats, pulses))
        self.assertIs(is_even([0] * 64), True)
        self.assertIs(is_even([1] * 64), True)

    def test_many_beats_just_off_even(self):
        for beats, pulses in ((61, 25), (63, 22), (64, 24), (64, 27), (64, 41)):
            frame = even(beats, pulses, 0)
            for place in range(1, beats):
                swapped = list(frame)
                swapped[place - 1], swapped[place] = frame[place], frame[place - 1]
                self.assertIs(is_even(swapped), tuple(swapped) in rounds(frame), swapped)
        self.assertIs(is_even([0, 1] * 31 + [0]), True)
        self.assertIs(is_even([0, 1] * 31 + [0, 0]), False)
        self.assertIs(is_even([0, 1] * 30 + [0, 0] * 2), False)
        self.assertIs(is_even([1] + [0] * 30 + [1] + [0] * 32), False)
        self.assertIs(is_even([1] + [0] * 31 + [1] + [0] * 31), True)

    def test_what_is_no_frame_is_refused(self):
        for frame in BAD_FRAMES + tuple([0, far, 1] for far in FAR):
            self.refused(BadFrame, is_even, frame)

    def test_a_frame_stays_as_it_was_and_may_be_changed_later(self):
        frame = [1, 0, 1, 0]
        self.assertIs(is_even(frame), True)
        self.same(frame, [1, 0, 1, 0])
        frame[1], frame[2] = 1, 0
        self.assertIs(is_even(frame), False)
        self.same(frame, [1, 1, 0, 0])


def rounds(frame):
    """The frame begun at each of its beats."""
    return {tuple(frame[at:] + frame[:at]) for at in range(len(frame))}


class TurnOfTest(Case):
    def test_turns_worked_out_by_hand(self):
        self.same(turn_of([0, 0, 1, 0, 0, 1, 0, 1]), 0)
        self.same(turn_of([0, 1, 0, 0, 1, 0, 1, 0]), 1)
        self.same(turn_of([1, 0, 0, 1, 0, 0, 1, 0]), 7)
        self.same(turn_of([0, 1, 0, 1]), 0)
        self.same(turn_of([1, 0, 1, 0]), 1)
        self.same(turn_of([1, 0, 0, 1]), None)
        self.same(turn_of([1, 1, 0, 0]), None)

    def test_one_beat_no_pulse_and_all_pulses(self):
        for beats in (1, 2, 63, 64):
            self.same(turn_of([0] * beats), 0)
            self.same(turn_of([1] * beats), 0)

    def test_the_least_turn_of_all_small_frames(self):
        for frame in all_frames(9):
            wanted = None
            for turn in range(len(frame) - 1, -1, -1):
                if told_even(len(frame), sum(frame), turn) == frame:
                    wanted = turn
            self.same(turn_of(frame), wanted, frame)

    def test_the_least_turn_of_many_beats(self):
        for beats, pulses in ((60, 24), (61, 1), (63, 62), (64, 27), (64, 48), (64, 63)):
            again = beats // math.gcd(beats, pulses)
            for turn in range(-3, beats + 3):
                self.same(turn_of(even(beats, pulses, turn)), turn % again, (beats, pulses, turn))

    def test_many_beats_that_are_not_even(self):
        self.same(turn_of([1] * 32 + [0] * 32), None)
        self.same(turn_of([0, 1] * 30 + [0, 0] * 2), None)
        self.same(turn_of([1] + [0] * 30 + [1] + [0] * 32), None)

    def test_what_is_no_frame_is_refused(self):
        for frame in BAD_FRAMES + tuple([0, far, 1] for far in FAR):
            self.refused(BadFrame, turn_of, frame)

    def test_a_frame_stays_as_it_was_and_may_be_changed_later(self):
        frame = [1, 0, 1, 0]
        self.same(turn_of(frame), 1)
        self.same(frame, [1, 0, 1, 0])
        frame.reverse()
        self.same(turn_of(frame), 0)
        self.same(frame, [0, 1, 0, 1])


class ExactTest(Case):
    def test_widths_worked_out_by_hand(self):
        self.same(exact(8, 3), 8)
        self.same(exact(8, 4), 2)
        self.same(exact(8, 6), 4)
        self.same(exact(12, 8), 3)
        self.same(exact(64, 48), 4)
        self.same(exact(60, 42), 10)

    def test_one_beat_no_pulse_and_all_pulses(self):
        for beats in (1, 2, 7, 63, 64):
            self.same(exact(beats, 0), 1)
            self.same(exact(beats, beats), 1)
            self.same(exact(beats, 1), beats)

    def test_every_share(self):
        for beats in range(1, 65):
            for pulses in range(beats + 1):
                wanted = beats // math.gcd(beats, pulses)
                self.same(exact(beats, pulses), wanted, (beats, pulses))

    def test_all_windows_are_alike_at_its_multiples_only(self):
        for beats, pulses in ((1, 0), (1, 1), (6, 4), (8, 3), (9, 6), (12, 8), (64, 24)):
            least = exact(beats, pulses)
            frame = even(beats, pulses, 1)
            for width in range(1, 2 * beats + 3):
                fewest, most = spans(frame, width)
                self.assertEqual(fewest == most, width % least == 0, (beats, pulses, width))

    def test_what_is_no_share_is_refused(self):
        for beats, pulses in BAD_SHARES:
            self.refused(BadShare, exact, beats, pulses)
        for far in FAR:
            self.refused(BadShare, exact, far, 1)
            self.refused(BadShare, exact, far, far)
            self.refused(BadShare, exact, 8, far)


class InterfaceTest(Case):
    def test_arguments_have_their_names(self):
        self.same(even(turn=1, pulses=3, beats=8), [0, 1, 0, 0, 1, 0, 1, 0])
        self.same(spans(width=2, frame=[1, 1, 0, 0, 0]), (0, 2))
        self.same(is_even(frame=[1, 0]), True)
        self.same(turn_of(frame=[1, 0]), 1)
        self.same(exact(pulses=4, beats=8), 2)

    def test_each_is_defined_in_its_file(self):
        for name in ("even", "spans", "is_even", "turn_of", "exact"):
            self.assertEqual(getattr(frames, name).__module__, "pulseshare.frames")


if __name__ == "__main__":
    unittest.main()
