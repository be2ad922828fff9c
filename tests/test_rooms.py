import itertools
import unittest

from pulseshare import rooms
from pulseshare.errors import BadBegins, BadShare, NoRoom
from pulseshare.rooms import blocks, peak, sums, turned
from tests.helper import BAD_SHARES, FAR, Case, told_even

# Beats and shares that are refused by all that is handed shares.
BAD_ROOMS = tuple((beats, [pulses]) for beats, pulses in BAD_SHARES) + (
    (0, []), (-1, []), (-64, []), (65, []), (66, [0]), (1000, [3, 4]),
    (1, [0] * 13), (8, [0] * 13), (8, [3] * 13), (64, [64] * 13), (64, [1] * 14), (8, [0] * 40),
    (8, [3, -1]), (8, [-1, 3]), (8, [3, 9, 2]), (8, [2, 3, 9]), (8, [4] * 11 + [9]), (8, [4] * 11 + [-1]),
    (8, [9, -1]), (64, [65]), (64, [0] * 11 + [65]), (0, [0] * 13), (65, [66] * 13),
) + tuple((far, []) for far in FAR) + tuple((far, [far]) for far in FAR) + tuple(
    (8, [3, far]) for far in FAR
) + tuple((8, [far, 3]) for far in FAR) + ((8, [10 ** 29, -(10 ** 29)]), (8, [-3, 3]), (8, [9, 7]))

# Beats and shares with room for all kinds of begins.
GOOD_ROOMS = (
    (1, []), (1, [0]), (1, [1]), (1, [1, 0, 1]), (1, [1] * 12), (1, [0] * 12), (2, [1, 1, 1]),
    (5, [5, 5]), (5, [5, 5, 1]), (7, [3, 0, 4, 7, 0, 1]), (8, [3, 4, 5]), (8, [8] * 12), (8, [7] * 12),
    (12, [1, 2, 3, 4, 5, 6, 7, 8, 9, 10, 11, 12]), (63, [62, 1, 63, 2, 31, 32]), (64, []), (64, [0] * 12),
    (64, [1] * 12), (64, [63] * 12), (64, [64] * 12), (64, [64, 0, 1, 63, 64, 27, 0, 5, 60, 33, 2, 9]),
)


def share_rows(most_beats, most_shares):
    """All beats with all rows of shares, up to so many of each."""
    for beats in range(1, most_beats + 1):
        for many in range(most_shares + 1):
            for row in itertools.product(range(beats + 1), repeat=many):
                yield beats, list(row)


def rounded_up(beats, shares):
    """The sum by beats, up to a whole one, found by counting."""
    whole = 0
    while whole * beats < sum(shares):
        whole += 1
    return whole


def told_sums(beats, shares, begins):
    """How many blocks each beat is in, by its distance from their begins."""
    return [
        sum((beat - begin) % beats < pulses for pulses, begin in zip(shares, begins))
        for beat in range(beats)
    ]


def told_begins(beats, shares):
    return [sum(shares[:at]) % beats for at in range(len(shares))]


class PeakTest(Case):
    def test_peaks_worked_out_by_hand(self):
        self.same(peak(8, [3, 4, 5]), 2)
        self.same(peak(8, [3, 4, 1]), 1)
        self.same(peak(8, [3, 4, 2]), 2)
        self.same(peak(8, [8, 8]), 2)
        self.same(peak(8, [8, 8, 1]), 3)
        self.same(peak(8, [1]), 1)
        self.same(peak(3, [2, 2, 2]), 2)
        self.same(peak(10, [7, 0, 0, 4]), 2)

    def test_no_share_and_no_pulses(self):
        for beats in (1, 2, 63, 64):
            self.same(peak(beats, []), 0)
            self.same(peak(beats, [0]), 0)
            self.same(peak(beats, [0] * 12), 0)

    def test_one_beat_and_sixty_four_with_twelve_shares(self):
        self.same(peak(1, [1] * 12), 12)
        self.same(peak(1, [1, 0] * 6), 6)
        self.same(peak(64, [64] * 12), 12)
        self.same(peak(64, [64] * 11 + [0]), 11)
        self.same(peak(64, [64] * 11 + [1]), 12)
        self.same(peak(64, [1] * 12), 1)
        self.same(peak(64, [5, 6] * 6), 2)
        self.same(peak(64, [64, 63] * 6), 12)

    def test_the_sum_by_beats_up_to_a_whole_one(self):
        for beats, shares in list(share_rows(5, 3)) + list(GOOD_ROOMS):
            self.same(peak(beats, shares), rounded_up(beats, shares), (beats, shares))

    def test_the_least_over_all_frames_that_the_shares_can_have(self):
        for beats, shares in share_rows(3, 3):
            least = len(shares)
            frames_of = [
                [frame for frame in itertools.product((0, 1), repeat=beats) if sum(frame) == pulses]
                for pulses in shares
            ]
            for frames in itertools.product(*frames_of):
                most = max(sum(frame[beat] for frame in frames) for beat in range(beats))
                least = min(least, most)
            self.same(peak(beats, shares), least, (beats, shares))

    def test_what_are_no_shares_is_refused(self):
        for beats, shares in BAD_ROOMS:
            self.refused(BadShare, peak, beats, shares)

    def test_shares_stay_as_they_were_and_may_be_changed_later(self):
        shares = [3, 4, 5]
        self.same(peak(8, shares), 2)
        self.same(shares, [3, 4, 5])
        shares[0] = 0
        shares.pop()
        self.same(peak(8, shares), 1)
        self.same(shares, [0, 4])


class BlocksTest(Case):
    def test_begins_worked_out_by_hand(self):
        self.same(blocks(8, [3, 4, 5], 2), [0, 3, 7])
        self.same(blocks(8, [3, 4, 5, 4], 2), [0, 3, 7, 4])
        self.same(blocks(8, [5, 3, 8], 2), [0, 5, 0])
        self.same(blocks(8, [8, 8, 2, 1], 3), [0, 0, 0, 2])
        self.same(blocks(8, [0, 3, 0, 2], 1), [0, 0, 3, 3])
        self.same(blocks(5, [4, 4, 4, 4], 4), [0, 4, 3, 2])
        self.same(blocks(2, [1, 1, 1], 2), [0, 1, 0])

    def test_one_beat_and_sixty_four(self):
        self.same(blocks(1, [1], 1), [0])
        self.same(blocks(1, [1] * 12, 12), [0] * 12)
        self.same(blocks(1, [0, 1, 1], 2), [0, 0, 0])
        self.same(blocks(64, [64] * 12, 12), [0] * 12)
        self.same(blocks(64, [63] * 12, 12), [0, 63, 62, 61, 60, 59, 58, 57, 56, 55, 54, 53])
        self.same(blocks(64, [1] * 12, 1), [0, 1, 2, 3, 4, 5, 6, 7, 8, 9, 10, 11])
        self.same(blocks(64, [32, 31, 1, 0, 64, 5], 3), [0, 32, 63, 0, 0, 0])

    def test_no_share_and_no_pulses(self):
        for beats in (1, 8, 64):
            for bound in (0, 1, 12):
                self.same(blocks(beats, [], bound), [])
                self.same(blocks(beats, [0], bound), [0])
                self.same(blocks(beats, [0] * 12, bound), [0] * 12)

    def test_each_begins_where_the_one_ahead_ends(self):
        for beats, shares in list(share_rows(5, 3)) + list(GOOD_ROOMS):
            wanted = told_begins(beats, shares)
            bound = rounded_up(beats, shares)
            for more in (0, 1, 5, 10 ** 29):
                self.same(blocks(beats, shares, bound + more), wanted, (beats, shares, more))

    def test_no_more_than_the_bound_and_no_fewer_than_the_sum_by_beats(self):
        for beats, shares in list(share_rows(5, 3)) + list(GOOD_ROOMS):
            bound = rounded_up(beats, shares)
            counts = told_sums(beats, shares, blocks(beats, shares, bound))
            self.assertLessEqual(max(counts), bound, (beats, shares))
            self.assertGreaterEqual(min(counts), sum(shares) // beats, (beats, shares))

    def test_a_bound_below_the_peak_has_no_room(self):
        for beats, shares in list(share_rows(4, 3)) + list(GOOD_ROOMS):
            bound = rounded_up(beats, shares)
            for less in (1, 2, bound + 1):
                self.refused(NoRoom, blocks, beats, shares, bound - less)
        self.refused(NoRoom, blocks, 8, [3, 4, 5], 1)
        self.refused(NoRoom, blocks, 64, [64] * 12, 11)
        self.refused(NoRoom, blocks, 64, [1], 0)
        self.refused(NoRoom, blocks, 1, [], -1)

    def test_bounds_of_thirty_figures(self):
        for far in FAR:
            if far > 0:
                self.same(blocks(8, [3, 4, 5], far), [0, 3, 7])
                self.same(blocks(8, [], far), [])
            else:
                self.refused(NoRoom, blocks, 8, [3, 4, 5], far)
                self.refused(NoRoom, blocks, 8, [0], far)
                self.refused(NoRoom, blocks, 8, [], far)

    def test_what_are_no_shares_is_refused_ahead_of_the_bound(self):
        for beats, shares in BAD_ROOMS:
            for bound in (12, 1, 0, -1) + FAR:
                self.refused(BadShare, blocks, beats, shares, bound)

    def test_shares_stay_as_they_were_and_may_be_changed_later(self):
        shares = [3, 4, 5]
        told = blocks(8, shares, 2)
        self.same(shares, [3, 4, 5])
        shares[0] = 1
        shares.append(6)
        self.same(told, [0, 3, 7])
        self.same(blocks(8, shares, 2), [0, 1, 5, 2])
        self.same(shares, [1, 4, 5, 6])

    def test_a_told_list_may_be_changed(self):
        shares = [3, 4, 5]
        told = blocks(8, shares, 2)
        told[0] = 9
        told.append(9)
        self.same(shares, [3, 4, 5])
        self.same(blocks(8, shares, 2), [0, 3, 7])
        nothing = blocks(8, [], 0)
        nothing.append(9)
        self.same(blocks(8, [], 0), [])


class SumsTest(Case):
    def test_sums_worked_out_by_hand(self):
        self.same(sums(8, [3, 4, 5], [0, 3, 7]), [2, 2, 2, 2, 1, 1, 1, 1])
        self.same(sums(8, [3, 4, 5], [0, 0, 0]), [3, 3, 3, 2, 1, 0, 0, 0])
        self.same(sums(8, [3], [6]), [1, 0, 0, 0, 0, 0, 1, 1])
        self.same(sums(8, [3], [5]), [0, 0, 0, 0, 0, 1, 1, 1])
        self.same(sums(5, [2, 2], [4, 4]), [2, 0, 0, 0, 2])
        self.same(sums(5, [1, 5, 0], [2, 3, 2]), [1, 1, 2, 1, 1])

    def test_one_beat_and_sixty_four(self):
        self.same(sums(1, [1], [0]), [1])
        self.same(sums(1, [0], [0]), [0])
        self.same(sums(1, [1] * 12, [0] * 12), [12])
        self.same(sums(64, [64] * 12, [63] * 12), [12] * 64)
        self.same(sums(64, [1], [63]), [0] * 63 + [1])
        self.same(sums(64, [1], [0]), [1] + [0] * 63)
        self.same(sums(64, [2], [63]), [1] + [0] * 62 + [1])
        self.same(sums(64, [63], [1]), [0] + [1] * 63)
        self.same(sums(64, [63], [63]), [1] * 62 + [0, 1])

    def test_no_share_and_no_pulses(self):
        for beats in (1, 8, 64):
            self.same(sums(beats, [], []), [0] * beats)
            for begin in (0, beats - 1):
                self.same(sums(beats, [0], [begin]), [0] * beats)
                self.same(sums(beats, [0] * 12, [begin] * 12), [0] * beats)

    def test_all_pulses_from_any_begin_on(self):
        for beats in (1, 2, 8, 64):
            for begin in range(beats):
                self.same(sums(beats, [beats], [begin]), [1] * beats)

    def test_each_pair_of_small_blocks(self):
        for beats, shares in share_rows(5, 2):
            for begins in itertools.product(range(beats), repeat=len(shares)):
                wanted = told_sums(beats, shares, begins)
                self.same(sums(beats, shares, list(begins)), wanted, (beats, shares, begins))

    def test_many_blocks_from_many_begins(self):
        for beats, shares in GOOD_ROOMS:
            for step in range(0, 2 * beats, 3):
                begins = [(at * step + step // 2) % beats for at in range(len(shares))]
                wanted = told_sums(beats, shares, begins)
                self.same(sums(beats, shares, begins), wanted, (beats, shares, begins))

    def test_what_blocks_tells_keeps_under_its_bound(self):
        for beats, shares in list(share_rows(4, 3)) + list(GOOD_ROOMS):
            counts = sums(beats, shares, blocks(beats, shares, peak(beats, shares)))
            self.assertEqual(max(counts), peak(beats, shares), (beats, shares))
            self.assertEqual(min(counts), sum(shares) // beats, (beats, shares))

    def test_what_are_no_begins_is_refused(self):
        for beats, shares, begins in (
            (8, [3, 4, 5], []), (8, [3, 4, 5], [0]), (8, [3, 4, 5], [0, 3]), (8, [3, 4, 5], [0, 3, 7, 0]),
            (8, [], [0]), (8, [], [-1]), (8, [3], []), (8, [3], [0, 0]), (8, [3], [-1]), (8, [3], [8]),
            (8, [3], [9]), (8, [3], [-8]), (8, [0], [8]), (8, [0], [-1]), (8, [8], [8]),
            (8, [3, 4, 5], [-1, 3, 7]), (8, [3, 4, 5], [0, -1, 7]), (8, [3, 4, 5], [0, 3, -1]),
            (8, [3, 4, 5], [8, 3, 7]), (8, [3, 4, 5], [0, 8, 7]), (8, [3, 4, 5], [0, 3, 8]),
            (1, [1], [1]), (1, [1], [-1]), (1, [0], [1]), (64, [64], [64]), (64, [1], [65]),
            (64, [1] * 12, [0] * 11), (64, [1] * 12, [0] * 13), (64, [1] * 12, [63] * 11 + [64]),
            (64, [1] * 12, [63] * 11 + [-1]), (64, [], [0] * 13), (8, [3], [0, 8]), (8, [3, 4], [-1]),
        ):
            self.refused(BadBegins, sums, beats, shares, begins)
        for far in FAR:
            self.refused(BadBegins, sums, 8, [3], [far])
            self.refused(BadBegins, sums, 8, [3, 4], [0, far])

    def test_what_are_no_shares_is_refused_ahead_of_the_begins(self):
        for beats, shares in BAD_ROOMS:
            for begins in ([0] * len(shares), [], [0], [-1], [65] * len(shares), [0] * 13, [10 ** 29]):
                self.refused(BadShare, sums, beats, shares, begins)

    def test_what_is_handed_in_stays_as_it_was_and_may_be_changed_later(self):
        shares, begins = [3, 4], [6, 0]
        told = sums(8, shares, begins)
        self.same((shares, begins), ([3, 4], [6, 0]))
        shares[0] = 1
        begins[1] = 7
        self.same(told, [2, 1, 1, 1, 0, 0, 1, 1])
        self.same(sums(8, shares, begins), [1, 1, 1, 0, 0, 0, 1, 1])
        self.same((shares, begins), ([1, 4], [6, 7]))

    def test_a_told_list_may_be_changed(self):
        shares, begins = [3, 4], [6, 0]
        for _ in range(2):
            told = sums(8, shares, begins)
            self.same(told, [2, 1, 1, 1, 0, 0, 1, 1])
            told[0] = 9
            told.append(9)
        self.same((shares, begins), ([3, 4], [6, 0]))


def told_turned(beats, shares):
    """The least peak and the first row that has it, of all rows of turns."""
    found = []
    for row in itertools.product(range(beats), repeat=len(shares)):
        frames = [told_even(beats, pulses, turn) for pulses, turn in zip(shares, row)]
        most = max(sum(frame[beat] for frame in frames) for beat in range(beats))
        found.append((most, list(row)))
    return min(found)


class TurnedTest(Case):
    def test_turns_worked_out_by_hand(self):
        # By turn 0, 2 of 4 beats are at 1 and 3; by turn 1 they are at 0 and 2.
        self.same(turned(4, [2, 2]), (1, [0, 1]))
        self.same(turned(4, [2, 2, 2]), (2, [0, 0, 1]))
        self.same(turned(3, [1, 1, 1]), (1, [0, 1, 2]))
        self.same(turned(4, [1, 1, 1]), (1, [0, 1, 2]))
        self.same(turned(4, [2, 1]), (1, [0, 1]))
        self.same(turned(4, [1, 2]), (1, [0, 1]))
        self.same(turned(2, [1, 1, 1]), (2, [0, 0, 1]))

    def test_even_frames_may_need_more_than_the_peak(self):
        # Steps of 3 and of 2 beats meet, whatever their turns.
        self.same(peak(6, [2, 3]), 1)
        self.same(turned(6, [2, 3]), (2, [0, 0]))
        self.same(peak(12, [4, 3]), 1)
        self.same(turned(12, [4, 3]), (2, [0, 0]))

    def test_no_share_one_and_three(self):
        for beats in range(1, 13):
            self.same(turned(beats, []), (0, []))
            self.same(turned(beats, [0]), (0, [0]))
            for pulses in range(1, beats + 1):
                self.same(turned(beats, [pulses]), (1, [0]))
            self.same(turned(beats, [0, 0, 0]), (0, [0, 0, 0]))
            self.same(turned(beats, [beats] * 3), (3, [0, 0, 0]))
            self.same(turned(beats, [beats, 0, beats]), (2, [0, 0, 0]))

    def test_twelve_beats(self):
        self.same(turned(12, [6, 6]), (1, [0, 1]))
        self.same(turned(12, [4, 4, 4]), (1, [0, 1, 2]))
        self.same(turned(12, [1, 1, 1]), (1, [0, 1, 2]))
        # 11 of 12 are off at 0 alone, where 1 of 12 is on by turn 11.
        self.same(turned(12, [12, 11, 1]), (2, [0, 0, 11]))
        for shares in ([5, 7], [7, 5], [5, 7, 5], [3, 4, 5], [1, 2, 11], [9, 8, 7], [6, 3, 3], [2, 3, 7], [10, 11, 9]):
            self.same(turned(12, shares), told_turned(12, shares), shares)

    def test_all_small_rows_of_shares(self):
        for beats, shares in share_rows(5, 3):
            self.same(turned(beats, shares), told_turned(beats, shares), (beats, shares))

    def test_all_pairs_up_to_twelve_beats(self):
        for beats in range(6, 13):
            for first in range(beats + 1):
                for second in range(beats + 1):
                    shares = [first, second]
                    self.same(turned(beats, shares), told_turned(beats, shares), (beats, shares))

    def test_what_are_no_shares_is_refused(self):
        for beats, shares in BAD_ROOMS:
            self.refused(BadShare, turned, beats, shares)

    def test_more_than_twelve_beats_are_refused(self):
        for beats in (13, 14, 24, 63, 64, 65):
            for shares in ([], [0], [1], [13], [1, 2], [1, 2, 3], [0] * 4):
                self.refused(BadShare, turned, beats, shares)

    def test_more_than_three_shares_are_refused(self):
        for beats in (1, 2, 8, 12, 13):
            for many in (4, 5, 12, 13):
                for pulses in (0, 1, beats):
                    self.refused(BadShare, turned, beats, [pulses] * many)

    def test_shares_beyond_the_beats_are_refused(self):
        for beats in (1, 8, 11, 12):
            for pulses in (-1, -12, beats + 1, beats + 2, 64) + FAR:
                for shares in ([pulses], [pulses, 0], [0, pulses], [0, 1, pulses], [pulses] * 3):
                    self.refused(BadShare, turned, beats, shares)

    def test_shares_stay_as_they_were_and_may_be_changed_later(self):
        shares = [2, 2]
        told = turned(4, shares)
        self.same(shares, [2, 2])
        shares[0] = 4
        shares.append(0)
        self.same(told, (1, [0, 1]))
        self.same(turned(4, shares), (2, [0, 0, 0]))
        self.same(shares, [4, 2, 0])

    def test_a_told_list_may_be_changed(self):
        shares = [2, 2]
        for _ in range(2):
            most, turns = turned(4, shares)
            self.same((most, turns), (1, [0, 1]))
            turns[0] = 9
            turns.append(9)
            nothing = turned(4, [])
            self.same(nothing, (0, []))
            nothing[1].append(9)
        self.same(shares, [2, 2])


class InterfaceTest(Case):
    def test_arguments_have_their_names(self):
        self.same(peak(shares=[3, 4, 5], beats=8), 2)
        self.same(blocks(bound=2, shares=[3, 4, 5], beats=8), [0, 3, 7])
        self.same(sums(begins=[6], shares=[3], beats=8), [1, 0, 0, 0, 0, 0, 1, 1])
        self.same(turned(shares=[2, 2], beats=4), (1, [0, 1]))

    def test_each_is_defined_in_its_file(self):
        for name in ("peak", "blocks", "sums", "turned"):
            self.assertEqual(getattr(rooms, name).__module__, "pulseshare.rooms")


if __name__ == "__main__":
    unittest.main()
