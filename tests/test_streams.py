import unittest

from pulseshare import streams
from pulseshare.errors import BadShare
from pulseshare.frames import even
from pulseshare.streams import Stream, pulsed
from tests.helper import FAR, Case

MOST = 10 ** 12
BAD_WHOLES = (0, -1, -2, -MOST, MOST + 1, MOST + 2, 2 * MOST) + FAR


def mixed_shares(whole, many):
    """Shares all over from 0 to the whole, both of them among these."""
    shares = [(k * k * 7919 + k * (whole // 3 + 1)) % (whole + 1) for k in range(many)]
    return [0, whole, whole] + shares + [whole, 0]


def told_pulses(whole, shares):
    """What point 5 asks for: one whole more with this share than without it."""
    told = []
    total = 0
    for share in shares:
        told.append(int((total + share) // whole > total // whole))
        total += share
    return told


class StreamTest(Case):
    def test_a_stream_worked_out_by_hand(self):
        stream = Stream(10)
        steps = ((4, 0, 4, 0), (4, 0, 8, 0), (4, 1, 2, 1), (0, 0, 2, 1), (8, 1, 0, 2),
                 (10, 1, 0, 3), (9, 0, 9, 3), (10, 1, 9, 4), (0, 0, 9, 4), (1, 1, 0, 5))
        for share, told, rest, pulses in steps:
            self.same(stream.next(share), told)
            self.same(stream.rest(), rest)
            self.same(stream.pulses(), pulses)

    def test_a_new_stream_has_told_nothing(self):
        for whole in (1, 2, 10, MOST):
            stream = Stream(whole)
            self.same(stream.rest(), 0)
            self.same(stream.pulses(), 0)

    def test_shares_of_nothing_never_tell_a_pulse(self):
        for whole in (1, 7, MOST):
            stream = Stream(whole)
            for _ in range(20):
                self.same(stream.next(0), 0)
            self.same(stream.rest(), 0)
            self.same(stream.pulses(), 0)

    def test_a_share_of_nothing_tells_no_second_pulse(self):
        stream = Stream(7)
        self.same([stream.next(share) for share in (7, 0, 0, 6, 0, 1, 0)], [1, 0, 0, 0, 0, 1, 0])

    def test_shares_of_the_whole_always_tell_one(self):
        for whole in (1, 7, MOST):
            stream = Stream(whole)
            for k in range(20):
                self.same(stream.next(whole), 1)
                self.same(stream.rest(), 0)
                self.same(stream.pulses(), k + 1)

    def test_shares_of_the_whole_beside_a_rest(self):
        for whole in (2, 7, MOST):
            stream = Stream(whole)
            self.same(stream.next(whole - 1), 0)
            for k in range(20):
                self.same(stream.next(whole), 1)
                self.same(stream.rest(), whole - 1)
                self.same(stream.pulses(), k + 1)

    def test_the_least_whole(self):
        stream = Stream(1)
        self.same([stream.next(share) for share in (0, 1, 1, 0, 1)], [0, 1, 1, 0, 1])
        self.same(stream.rest(), 0)
        self.same(stream.pulses(), 3)

    def test_the_greatest_whole_is_counted_to_the_one(self):
        stream = Stream(MOST)
        self.same(stream.next(MOST - 1), 0)
        self.same(stream.next(0), 0)
        self.same(stream.rest(), MOST - 1)
        self.same(stream.next(1), 1)
        self.same(stream.rest(), 0)
        self.same(stream.next(1), 0)
        self.same(stream.next(MOST - 1), 1)
        self.same(stream.pulses(), 2)

    def test_mixed_shares_as_the_document_tells_it(self):
        for whole in (1, 2, 3, 10, 64, 999, 10 ** 6 + 3, MOST - 1, MOST):
            stream = Stream(whole)
            shares = mixed_shares(whole, 200)
            wanted = told_pulses(whole, shares)
            for k, share in enumerate(shares):
                self.same(stream.next(share), wanted[k], (whole, k))
                self.same(stream.rest(), sum(shares[:k + 1]) % whole)
                self.same(stream.pulses(), sum(wanted[:k + 1]))

    def test_over_any_stretch_less_than_one_apart(self):
        for whole in (3, 10, MOST):
            shares = mixed_shares(whole, 40)
            stream = Stream(whole)
            told = [stream.next(share) for share in shares]
            for start in range(len(shares)):
                for end in range(start + 1, len(shares) + 1):
                    apart = sum(told[start:end]) * whole - sum(shares[start:end])
                    self.assertLess(abs(apart), whole)

    def test_asking_changes_nothing(self):
        stream = Stream(10)
        stream.next(7)
        for _ in range(3):
            self.same(stream.rest(), 7)
            self.same(stream.pulses(), 0)
        self.same(stream.next(3), 1)

    def test_streams_stand_apart(self):
        one, other = Stream(10), Stream(10)
        self.same(one.next(9), 0)
        self.same(other.next(1), 0)
        self.same(one.next(9), 1)
        self.same((one.rest(), one.pulses()), (8, 1))
        self.same((other.rest(), other.pulses()), (1, 0))
        third = Stream(5)
        self.same((third.rest(), third.pulses()), (0, 0))

    def test_a_whole_beyond_its_bounds_is_refused(self):
        for whole in BAD_WHOLES:
            self.refused(BadShare, Stream, whole)

    def test_a_share_beyond_its_whole_is_refused(self):
        for whole in (1, 10, MOST - 1, MOST):
            stream = Stream(whole)
            for share in (-1, -2, -whole, whole + 1, whole + 2, 2 * whole, MOST + 1) + FAR:
                self.refused(BadShare, stream.next, share)

    def test_behind_a_refusal_all_is_as_it_was(self):
        for share in (-1, -7, 11, 13, 20) + FAR:
            stream = Stream(10)
            self.refused(BadShare, stream.next, share)
            self.same((stream.rest(), stream.pulses()), (0, 0))
            self.same(stream.next(10), 1)
            self.same(stream.next(7), 0)
            self.refused(BadShare, stream.next, share)
            self.refused(BadShare, stream.next, share)
            self.same((stream.rest(), stream.pulses()), (7, 1))
            self.same(stream.next(2), 0)
            self.same(stream.next(1), 1)
            self.same((stream.rest(), stream.pulses()), (0, 2))


class PulsedTest(Case):
    def test_pulses_worked_out_by_hand(self):
        self.same(pulsed(10, [4, 4, 4, 0, 8, 10, 9, 10]), [0, 0, 1, 0, 1, 1, 0, 1])
        self.same(pulsed(3, [1, 1, 1, 1, 1, 1, 1]), [0, 0, 1, 0, 0, 1, 0])
        self.same(pulsed(1, [0, 1, 1, 0]), [0, 1, 1, 0])
        self.same(pulsed(10, [0]), [0])
        self.same(pulsed(10, [10]), [1])

    def test_no_shares(self):
        self.same(pulsed(1, []), [])
        self.same(pulsed(MOST, []), [])

    def test_the_greatest_whole(self):
        self.same(pulsed(MOST, [MOST - 1, 0, 1, MOST, 1, MOST - 1]), [0, 0, 1, 1, 0, 1])

    def test_mixed_shares_as_the_document_tells_it(self):
        for whole in (1, 2, 3, 10, 64, 999, MOST - 1, MOST):
            shares = mixed_shares(whole, 500)
            self.same(pulsed(whole, shares), told_pulses(whole, shares), whole)

    def test_many_shares(self):
        shares = mixed_shares(MOST, 20000)
        self.same(pulsed(MOST, shares), told_pulses(MOST, shares))

    def test_a_steady_share_tells_its_even_frame(self):
        for beats, pulses in ((1, 0), (1, 1), (8, 3), (12, 8), (64, 27), (64, 64)):
            self.same(pulsed(beats, [pulses] * beats), even(beats, pulses, 0))

    def test_a_whole_beyond_its_bounds_is_refused(self):
        for whole in BAD_WHOLES:
            for shares in ([], [0], [1], [-1], [0, 10 ** 29]):
                self.refused(BadShare, pulsed, whole, shares)

    def test_a_share_beyond_its_whole_is_refused(self):
        for whole in (1, 10, MOST):
            for share in (-1, -whole - 1, whole + 1, 2 * whole + 1) + FAR:
                for shares in ([share], [share, 0], [0, share], [0, whole, share, 1], [share] * 3):
                    self.refused(BadShare, pulsed, whole, shares)

    def test_what_is_handed_in_stays_as_it_was_and_may_be_changed_later(self):
        shares = [0, 1, 1, 0]
        told = pulsed(1, shares)
        self.same(shares, [0, 1, 1, 0])
        shares[0] = 1
        shares.append(1)
        self.same(told, [0, 1, 1, 0])
        self.same(pulsed(1, shares), [1, 1, 1, 0, 1])

    def test_a_told_list_may_be_changed(self):
        shares = [0, 1, 1, 0]
        told = pulsed(1, shares)
        told[0] = 9
        told.append(9)
        self.same(shares, [0, 1, 1, 0])
        self.same(pulsed(1, shares), [0, 1, 1, 0])
        nothing = pulsed(1, [])
        nothing.append(9)
        self.same(pulsed(1, []), [])

    def test_each_call_begins_anew(self):
        self.same(pulsed(10, [9]), [0])
        self.same(pulsed(10, [9]), [0])


class InterfaceTest(Case):
    def test_arguments_have_their_names(self):
        stream = Stream(whole=10)
        self.same(stream.next(share=10), 1)
        self.same(pulsed(shares=[5, 5], whole=10), [0, 1])

    def test_each_is_defined_in_its_file(self):
        self.assertEqual(Stream.__module__, "pulseshare.streams")
        self.assertEqual(streams.pulsed.__module__, "pulseshare.streams")

    def test_methods_are_defined_in_the_class_itself(self):
        for name in ("next", "rest", "pulses"):
            self.assertIn(name, vars(Stream))


if __name__ == "__main__":
    unittest.main()
