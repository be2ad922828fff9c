import unittest

from pulseshare import notes
from pulseshare.errors import BadFrame, BadText
from pulseshare.frames import even
from pulseshare.notes import read_frame, written
from tests.helper import BAD_FRAMES, FAR, Case, all_frames

# From the blank to ~, without the percent sign and the two that are read.
OTHERS = [chr(code) for code in range(32, 127) if chr(code) not in "%#."]


class WrittenTest(Case):
    def test_texts_worked_out_by_hand(self):
        self.same(written([1, 0, 0, 1, 1]), "#..##")
        self.same(written([0, 1, 1, 0]), ".##.")
        self.same(written([0, 0, 1, 0, 0, 1, 0, 1]), "..#..#.#")

    def test_one_beat_and_sixty_four(self):
        self.same(written([0]), ".")
        self.same(written([1]), "#")
        self.same(written([0] * 64), "." * 64)
        self.same(written([1] * 64), "#" * 64)
        self.same(written([1] + [0] * 63), "#" + "." * 63)
        self.same(written([0] * 63 + [1]), "." * 63 + "#")

    def test_what_is_no_frame_is_refused(self):
        for frame in BAD_FRAMES:
            self.refused(BadFrame, written, frame)
        for far in FAR:
            self.refused(BadFrame, written, [far])
            self.refused(BadFrame, written, [0, 1, far])

    def test_a_frame_stays_as_it_was_and_may_be_changed_later(self):
        frame = [1, 0, 1]
        text = written(frame)
        self.same(frame, [1, 0, 1])
        frame[0] = 0
        frame.append(1)
        self.same(text, "#.#")
        self.same(written(frame), "..##")
        self.same(frame, [0, 0, 1, 1])


class ReadFrameTest(Case):
    def refused_at(self, text, place):
        """The text is refused with this place, which is a plain number."""
        self.same(self.refused(BadText, read_frame, text).place, place, text[:80])

    def test_frames_worked_out_by_hand(self):
        self.same(read_frame("#..##"), [1, 0, 0, 1, 1])
        self.same(read_frame(".##."), [0, 1, 1, 0])

    def test_one_sign_and_sixty_four(self):
        self.same(read_frame("."), [0])
        self.same(read_frame("#"), [1])
        self.same(read_frame("." * 64), [0] * 64)
        self.same(read_frame("#" * 64), [1] * 64)
        self.same(read_frame("#" + "." * 62 + "#"), [1] + [0] * 62 + [1])
        self.same(read_frame("." * 62 + "#"), [0] * 62 + [1])

    def test_what_is_written_is_read_to_the_same_frame(self):
        for frame in all_frames(9):
            self.same(read_frame(written(frame)), frame)
        for beats in range(1, 65):
            for pulses in range(beats + 1):
                frame = even(beats, pulses, 2)
                self.same(read_frame(written(frame)), frame)
                self.same(written(read_frame(written(frame))), written(frame))

    def test_the_empty_text(self):
        self.refused_at("", 0)

    def test_a_longer_text(self):
        for many in (65, 66, 67, 100, 128, 1000):
            for sign in ("#", "."):
                self.refused_at(sign * many, 64)
        self.refused_at("#." * 33, 64)

    def test_each_other_sign(self):
        for sign in OTHERS:
            self.refused_at(sign, 0)
            self.refused_at(sign + "#.", 0)
            self.refused_at("#" + sign + ".", 1)
            self.refused_at("#." + sign, 2)
            self.refused_at("#" * 63 + sign, 63)
            self.refused_at("#" * 64 + sign, 64)

    def test_another_sign_at_any_place(self):
        for many in (1, 2, 8, 63, 64):
            for place in range(many):
                for sign in ("0", "1", " ", "-", "o", "~", ","):
                    text = "." * place + sign + "#" * (many - place - 1)
                    self.refused_at(text, place)

    def test_the_first_of_several_other_signs(self):
        self.refused_at("#.x.y", 2)
        self.refused_at("xyz", 0)
        self.refused_at(".zyx", 1)
        self.refused_at(" #.", 0)
        self.refused_at("#. ", 2)
        self.refused_at("10010", 0)
        self.refused_at("#" * 62 + "ab", 62)

    def test_a_longer_text_with_other_signs(self):
        for many in (65, 66, 70, 128):
            for place in range(64):
                text = "#" * place + "x" + "." * (many - place - 1)
                self.refused_at(text, place)
            for place in range(64, many):
                text = "#" * place + "x" + "." * (many - place - 1)
                self.refused_at(text, 64)
        self.refused_at("x" * 65, 0)
        self.refused_at("#" * 63 + "xx", 63)
        self.refused_at("#" * 64 + "xx", 64)
        self.refused_at("#" * 63 + "x" + "#" + "y", 63)
        self.refused_at(" " + "#" * 64, 0)
        self.refused_at("#" * 64 + " ", 64)

    def test_a_told_list_may_be_changed(self):
        for _ in range(2):
            told = read_frame("#.#")
            self.same(told, [1, 0, 1])
            told[0] = 9
            told.append(9)

    def test_behind_a_refusal_all_is_as_it_was(self):
        self.refused_at("##x", 2)
        self.same(read_frame("#."), [1, 0])


class InterfaceTest(Case):
    def test_arguments_have_their_names(self):
        self.same(written(frame=[1, 0]), "#.")
        self.same(read_frame(text="#."), [1, 0])

    def test_each_is_defined_in_its_file(self):
        for name in ("written", "read_frame"):
            self.assertEqual(getattr(notes, name).__module__, "pulseshare.notes")


if __name__ == "__main__":
    unittest.main()
