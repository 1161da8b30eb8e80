"""Point 10 of DOC.md, and onewalls/notes.py of its interface."""

import unittest

from onewalls import notes
from onewalls.errors import NoText
from onewalls.nets import Net
from onewalls.notes import read, shown
from tests.reckoning import TOP, large_nets, pairs_of, small_nets
from tests.samples import Mute, see_refused

NET = (12, [(0, 11, 305), (3, 2, 70), (2, 3, 1), (10, 0, TOP), (3, 2, 70)])

TEXT = "places 12\ntie 0 11 305\ntie 3 2 70\ntie 2 3 1\ntie 10 0 1000000000\ntie 3 2 70"

# Space signs and line ends that Python's own reading passes over or splits at.
SPACES = ["\t", "\x0b", "\x0c", "\x1c", "\x1d", "\x1e", "\x1f", "\x85", "\xa0", "\u2003", "\u2028",
          "\u2029", "\u3000", "\ufeff", "\u200b", "\r", "\r\n", "\x00"]

# Figures that are none of 0 to 9, though int takes some of them.
FIGURES = ["\u0661", "\uff11", "\u0967", "\xb2", "\u2460", "\u2167", "\xbd", "a", "O", "l"]

LONG = ["1" * 11, "9" * 50, "1" * 4300, "1" * 4301, "9" * 100000, "0" * 100000, "0" * 30 + "1", "1" + "0" * 5000]

WRONG_NUMBERS = ["", "00", "01", "007", "0000000001", "+1", "-1", "-0", "+0", "--1", "\u22121", "1.0", "1.",
                 ".1", "1e1", "0x1", "0b1", "1_0", "1,0", "1'", "(1)", "one", "True", "None", "1\t",
                 "\t1"] + FIGURES + LONG


class Interface(unittest.TestCase):
    def test_each_is_defined_in_its_file(self):
        for call, name in [(shown, "shown"), (read, "read")]:
            self.assertEqual(call.__module__, "onewalls.notes")
            self.assertEqual(call.__name__, name)
            self.assertIs(getattr(notes, name), call)

    def test_arguments_have_the_names_of_the_interface(self):
        self.assertEqual(shown(net=Net(*NET)), TEXT)
        self.assertEqual(read(text=TEXT).ties(), NET[1])

    def test_kinds(self):
        self.assertIs(type(shown(Net(*NET))), str)
        net = read(TEXT)
        self.assertIs(type(net), Net)
        self.assertIs(type(net.many), int)
        for tie in net.ties():
            self.assertIs(type(tie), tuple)
            self.assertEqual([type(part) for part in tie], [int, int, int])


class Shown(unittest.TestCase):
    def test_by_hand(self):
        self.assertEqual(shown(Net(*NET)), TEXT)

    def test_no_tie(self):
        for many in range(1, 25):
            self.assertEqual(shown(Net(many, [])), "places " + str(many))

    def test_order_and_turns_are_kept(self):
        self.assertEqual(shown(Net(3, [(2, 1, 5), (0, 1, 4), (1, 2, 5)])),
                         "places 3\ntie 2 1 5\ntie 0 1 4\ntie 1 2 5")

    def test_300_ties(self):
        self.assertEqual(shown(Net(2, [(0, 1, 7)] * 300)), "places 2" + "\ntie 0 1 7" * 300)


class Read(unittest.TestCase):
    def see_read_back(self, net):
        text = shown(net)
        back = read(text)
        self.assertEqual(back.many, net.many)
        self.assertEqual(back.ties(), net.ties())
        self.assertEqual(shown(back), text)

    def test_by_hand(self):
        net = read(TEXT)
        self.assertEqual((net.many, net.ties()), NET)

    def test_small_and_large_nets(self):
        for net in small_nets() + large_nets():
            self.see_read_back(net)

    def test_no_tie(self):
        for many in range(1, 25):
            net = read("places " + str(many))
            self.assertEqual((net.many, net.ties()), (many, []))

    def test_300_ties(self):
        pairs = pairs_of(Net(24, []))
        self.see_read_back(Net(24, [pairs[at] + (TOP - at,) for at in range(300)]))

    def test_lowest_and_highest(self):
        net = read("places 24\ntie 0 23 1\ntie 23 0 1000000000")
        self.assertEqual(net.ties(), [(0, 23, 1), (23, 0, TOP)])

    def test_each_is_a_net_of_its_own(self):
        first, second = read(TEXT), read(TEXT)
        first.ties().clear()
        self.assertIsNot(first, second)
        self.assertEqual(first.ties(), NET[1])
        self.assertEqual(second.ties(), NET[1])


class NoTexts(unittest.TestCase):
    def see_all_refused(self, texts):
        for text in texts:
            see_refused(self, NoText, read, text)

    def test_of_another_kind(self):
        self.see_all_refused([
            None, 0, 1, 12, -1, True, False, 1.5, float("nan"), 1j, [], ["places 2"], ["places 2", "tie 0 1 5"],
            (), ("places 2",), (2, []), {}, {"places": 2}, {"places 2"}, b"", b"places 2", bytearray(b"places 2"),
            object(), str, read, iter(["places 2"]), range(2), Net(2, []), Mute(),
        ])

    def test_empty_and_bare(self):
        self.see_all_refused(["", " ", "\n", "0", "1", "places", "places ", "tie", "tie 0 1 5", "net", "2"])

    def test_words_missing_or_too_many(self):
        self.see_all_refused([
            "places", "places 2 3", "places 2 tie 0 1 5", "2 places", "places 2\ntie", "places 2\ntie 0",
            "places 2\ntie 0 1", "places 2\ntie 0 1 5 5", "places 2\ntie 0 1 5 tie 0 1 5", "places 2\n0 1 5",
            "places 2\nplaces 2", "places 2\ntie 0 1 5\nplaces 2", "tie 0 1 5\nplaces 2", "places 2\n5",
            "places2", "places 2\ntie0 1 5", "places 2\ntie 01 5",
        ])

    def test_other_words(self):
        for word in ["Places", "PLACES", "place", "placess", "pl", "net", "plaCes", "\uff50laces", "tie", "#"]:
            self.see_all_refused([word + " 2", word + " 2\ntie 0 1 5"])
        for word in ["Tie", "TIE", "tye", "ties", "ti", "tiE", "places", "\uff54ie", "#", "-"]:
            self.see_all_refused(["places 2\n" + word + " 0 1 5", "places 2\ntie 0 1 5\n" + word + " 0 1 5"])

    def test_count_of_places(self):
        for many in ["0", "25", "26", "100", "1000000000", "1000000001", "9999999999"]:
            self.see_all_refused(["places " + many, "places " + many + "\ntie 0 1 5"])

    def test_more_than_300_ties(self):
        for count in (301, 302, 5000):
            self.see_all_refused(["places 2" + "\ntie 0 1 5" * count])

    def test_wrong_numbers(self):
        for word in WRONG_NUMBERS:
            self.see_all_refused([
                "places " + word, "places " + word + "\ntie 0 1 5", "places 9\ntie " + word + " 5 5",
                "places 9\ntie 5 " + word + " 5", "places 9\ntie 5 6 " + word,
                "places 9\ntie 5 6 " + word + "\ntie 0 1 5", "places 9\ntie 5 6 5\ntie 0 5 " + word,
            ])

    def test_figures_of_other_kinds_within(self):
        for sign in FIGURES:
            self.see_all_refused(["places 1" + sign, "places " + sign + "1", "places 9\ntie 0 1 1" + sign,
                                  "places 9\ntie 0 1 " + sign + "1"])

    def test_blanks(self):
        self.see_all_refused([
            " places 2", "places 2 ", "places  2", "places 2 \ntie 0 1 5", "places 2\n tie 0 1 5",
            "places 2\ntie 0 1 5 ", "places 2\ntie  0 1 5", "places 2\ntie 0  1 5", "places 2\ntie 0 1  5",
            "places 2\ntie 0 1 5 \ntie 0 1 5", "places 2\ntie 0 1 5\n ",
        ])

    def test_other_space_signs(self):
        for sign in SPACES:
            for at, letter in enumerate(TEXT):
                if letter == " ":
                    self.see_all_refused([TEXT[:at] + sign + TEXT[at + 1:], TEXT[:at] + sign + TEXT[at:],
                                          TEXT[:at] + " " + sign + TEXT[at + 1:]])
            self.see_all_refused([sign + TEXT, TEXT + sign, sign + "places 2", "places 2" + sign])

    def test_other_line_ends(self):
        for sign in SPACES + ["\n\r", "\n\n", "\\n", " ", ";", ","]:
            self.see_all_refused([TEXT.replace("\n", sign), "places 2" + sign + "tie 0 1 5",
                                  "places 2\ntie 0 1 5" + sign + "tie 0 1 5"])

    def test_line_ends_around(self):
        self.see_all_refused(["\n" + TEXT, TEXT + "\n", TEXT + "\n\n", "\nplaces 2", "places 2\n", "places 2\n\n",
                              "places 2\ntie 0 1 5\n", "places 2\ntie 0 1 5\r\n"])

    def test_empty_row_between(self):
        self.see_all_refused(["places 2\n\ntie 0 1 5", "places 2\ntie 0 1 5\n\ntie 0 1 5",
                              "places 2\n \ntie 0 1 5", "places 2\n\t\ntie 0 1 5"])

    def test_ties_of_no_net(self):
        for tie in ["0 2 5", "2 0 5", "0 24 5", "0 9999999999 5", "0 0 5", "1 1 5", "2 2 5", "0 1 0",
                    "0 1 1000000001", "0 1 9999999999", "1 0 0", "0 1 10000000000"]:
            self.see_all_refused(["places 2\ntie " + tie, "places 2\ntie 0 1 5\ntie " + tie,
                                  "places 2\ntie " + tie + "\ntie 0 1 5"])
        for many in range(1, 25):
            self.see_all_refused([f"places {many}\ntie 0 {many} 5", f"places {many}\ntie {many} 0 5"])
        self.see_all_refused(["places 1\ntie 0 0 5", "places 1\ntie 0 1 5"])

    def test_of_another_script_altogether(self):
        self.see_all_refused(["\ud800", "places \ud800", "\u0661", "\U0001f600", "places 2\n\udfff"])

    def test_whatever_is_read_is_just_what_is_written(self):
        # One sign dropped, put in or turned into another, at every place.
        for at in range(len(TEXT) + 1):
            changed = [TEXT[:at] + TEXT[at + 1:]]
            for sign in " \n0123459-+tieplacs\t_":
                changed += [TEXT[:at] + sign + TEXT[at:], TEXT[:at] + sign + TEXT[at + 1:]]
            for text in changed:
                try:
                    net = read(text)
                except NoText:
                    see_refused(self, NoText, read, text)
                else:
                    self.assertEqual(shown(net), text)


if __name__ == "__main__":
    unittest.main()
