import copy
import random
import unittest

from forkstamp.errors import BadRow
from forkstamp.packing import packed, unpacked
from forkstamp.stamps import Stamp
from odd_things import odd_things
from places import DEEP_SIDES, all_owns, all_tolds, depth, drawn_own, drawn_told, is_least, own_chain, told_chain

SIXTY = int("271828182845904523536028747135" * 2)
OWNS = [own for own in all_owns(3) if is_least(own)]
TOLDS = [told for told in all_tolds(2, 3) if is_least(told)] + [SIXTY, (SIXTY, (0, 2, 0), 1), (0, (1, 0, SIXTY), 0)]


def number_bits(number):
    """Point 13's bits of a number, counted out."""
    high = 1
    while high * 2 <= number + 1:
        high *= 2
    rest, bits, zeros = number + 1, "", -1
    while high:
        bits, zeros = bits + ("1" if rest >= high else "0"), zeros + 1
        rest, high = rest - high if rest >= high else rest, high // 2
    return "0" * zeros + bits


def own_bits(own):
    """Point 13's bits of an own part, in the form that it has."""
    if not isinstance(own, tuple):
        return {0: "000", 1: "001"}[own]
    left, right = own
    if left == 0:
        return "01" + own_bits(right)
    return "10" + own_bits(left) if right == 0 else "11" + own_bits(left) + own_bits(right)


def told_bits(told):
    """Point 13's bits of a told part, in the form that it has."""
    if not isinstance(told, tuple):
        return "1" + number_bits(told)
    return "0" + number_bits(told[0]) + told_bits(told[1]) + told_bits(told[2])


def row_of(bits):
    """The row of these bits, with 0s behind them for whole rows of eight."""
    while len(bits) % 8:
        bits += "0"
    return [sum(128 >> at for at in range(8) if bits[start + at] == "1") for start in range(0, len(bits), 8)]


def row_for(own, told):
    return row_of(own_bits(own) + told_bits(told))


def bits_of(row):
    return "".join("1" if number & 128 >> at else "0" for number in row for at in range(8))


def drawn_stamps(many):
    draw = random.Random(14)
    return [
        Stamp(drawn_own(draw, 7), drawn_told(draw, draw.choice([1, 3, 6]), draw.choice([1, 4, 300, SIXTY])))
        for _ in range(many)
    ]


def short_parts(most, small, pairs):
    """All parts whose bits are at most so many, with their bits, from the small ones up."""
    found = dict(small)
    while True:
        grown = dict(found)
        for left, left_bits in found.items():
            for right, right_bits in found.items():
                if len(left_bits) + len(right_bits) <= most + 1:
                    for part, bits in pairs(left, right):
                        if len(bits) <= most and is_least(part):
                            grown[part] = bits
        if len(grown) == len(found):
            return found
        found = grown


def short_rows():
    """Each row of one or two numbers into which a stamp is packed, with that stamp's parts."""
    owns = short_parts(14, {0: "000", 1: "001"}, lambda left, right: [((left, right), own_bits((left, right)))])
    numbers = {number: told_bits(number) for number in range(200) if len(told_bits(number)) <= 13}
    tolds = short_parts(13, numbers, lambda left, right: [
        ((number, left, right), told_bits((number, left, right))) for number in numbers])
    rows = {}
    for own, bits in owns.items():
        for told, more in tolds.items():
            if len(bits + more) <= 16:
                rows[tuple(row_of(bits + more))] = (own, told)
    return rows


class PackingCase(unittest.TestCase):
    def assert_bad(self, thing):
        with self.assertRaises(BadRow) as caught:
            unpacked(thing)
        self.assertIs(type(caught.exception), BadRow)

    def assert_bad_bits(self, bits):
        self.assert_bad(row_of(bits))

    def assert_packed(self, own, told, row):
        self.assertEqual(packed(Stamp(own, told)), row)
        stamp = unpacked(list(row))
        self.assertIs(type(stamp), Stamp)
        self.assertEqual((stamp.own, stamp.told), (own, told))


class PackedTest(PackingCase):
    def test_the_first_stamp(self):
        row = packed(Stamp())
        self.assertEqual(row, [56])
        self.assertIs(type(row), list)
        self.assertIs(type(row[0]), int)

    def test_each_case(self):
        for own, told, bits in (
            (1, 0, "001 1 1"),
            (0, 0, "000 1 1"),
            ((0, 1), 0, "01 001 1 1"),
            ((1, 0), 0, "10 001 1 1"),
            ((0, (1, 0)), 0, "01 10 001 1 1"),
            (((0, 1), 0), 0, "10 01 001 1 1"),
            (((1, 0), 1), 0, "11 10 001 001 1 1"),
            ((1, (0, 1)), 0, "11 001 01 001 1 1"),
            (((1, 0), (0, 1)), 0, "11 10 001 01 001 1 1"),
            (1, 1, "001 1 010"),
            (1, 2, "001 1 011"),
            (1, 3, "001 1 00100"),
            (1, 6, "001 1 00111"),
            (1, 7, "001 1 0001000"),
            (1, 254, "001 1 000000011111111"),
            (1, 255, "001 1 00000000100000000"),
            (1, (0, 1, 0), "001 0 1 1 010 1 1"),
            (1, (0, 0, 2), "001 0 1 1 1 1 011"),
            (1, (3, (0, 1, 0), 0), "001 0 00100 0 1 1 010 1 1 1 1"),
            (1, (1, 0, (2, 0, 1)), "001 0 010 1 1 0 011 1 1 1 010"),
            ((1, 0), (0, 1, 0), "10 001 0 1 1 010 1 1"),
        ):
            bits = bits.replace(" ", "")
            self.assertEqual(own_bits(own) + told_bits(told), bits)
            self.assert_packed(own, told, row_of(bits))

    def test_rows_in_numbers(self):
        self.assert_packed(0, 0, [24])
        self.assert_packed((0, 1), 0, [0b01001110])
        self.assert_packed((1, (0, 1)), 0, [0b11001010, 0b01110000])
        self.assert_packed(1, 1, [0b00110100])
        self.assert_packed((1, 0), (0, 1, 0), [0b10001011, 0b01011000])

    def test_0s_are_behind_the_last_bit_only_as_many_as_are_wanted(self):
        lengths = set()
        for own in OWNS:
            for told in TOLDS:
                bits = own_bits(own) + told_bits(told)
                row = packed(Stamp(own, told))
                self.assertEqual(bits_of(row)[:len(bits)], bits)
                self.assertEqual(bits_of(row)[len(bits):], "0" * (8 * len(row) - len(bits)))
                self.assertLess(8 * len(row) - len(bits), 8)
                lengths.add(len(bits) % 8)
        self.assertEqual(lengths, set(range(8)))

    def test_all_numbers_up_to_a_thousand_and_far_greater_ones(self):
        numbers = [*range(1000), SIXTY, 10 ** 59, 10 ** 60 - 1]
        for power in range(8, 210):
            numbers.extend((2 ** power - 2, 2 ** power - 1, 2 ** power))
        for number in numbers:
            self.assert_packed(1, number, row_for(1, number))
            self.assert_packed(0, (number, 0, 1), row_for(0, (number, 0, 1)))
            self.assert_packed(1, (0, number + 1, 0), row_for(1, (0, number + 1, 0)))

    def test_all_small_stamps(self):
        for own in OWNS:
            for told in TOLDS:
                self.assert_packed(own, told, row_for(own, told))

    def test_drawn_stamps(self):
        for stamp in drawn_stamps(400):
            self.assert_packed(stamp.own, stamp.told, row_for(stamp.own, stamp.told))

    def test_parts_that_were_not_in_their_least_form(self):
        self.assertEqual(packed(Stamp((1, 1), (0, 0, 0))), [56])
        self.assertEqual(packed(Stamp((1, (0, 0)), (0, 1, 2))), row_for((1, 0), (1, 0, 1)))

    def test_the_stamp_is_not_changed_and_the_row_is_the_askers_own(self):
        for stamp in drawn_stamps(50):
            before = dict(vars(stamp))
            row = packed(stamp)
            kept = list(row)
            row.append(7)
            row[0] = "none"
            self.assertEqual(packed(stamp), kept)
            self.assertEqual(vars(stamp), before)


class UnpackedTest(PackingCase):
    def test_all_rows_of_one_and_of_two_numbers(self):
        rows = short_rows()
        self.assertGreater(len(rows), 700)
        for row in [(high,) for high in range(256)] + [(high, low) for high in range(256) for low in range(256)]:
            if row in rows:
                stamp = unpacked(list(row))
                self.assertEqual((stamp.own, stamp.told), rows[row])
            else:
                self.assert_bad(list(row))

    def test_the_row_stays_and_may_be_changed_later(self):
        for stamp in drawn_stamps(50):
            row = packed(stamp)
            kept = list(row)
            got = unpacked(row)
            self.assertEqual(row, kept)
            row.clear()
            self.assertEqual((got.own, got.told), (stamp.own, stamp.told))
            self.assertIsNot(unpacked(kept), got)

    def test_a_bad_row_stays(self):
        for row in ([], [56, 0], [57], [255, 255], [56, None], [[56]], [True], [256, -1], {0: [56]}, ([56],)):
            before = copy.deepcopy(row)
            self.assert_bad(row)
            self.assertEqual(row, before)

    def test_what_is_no_row_at_all(self):
        for thing in odd_things():
            self.assert_bad(thing)
        for thing in (56, (56,), "8", "56", b"8", bytearray([56]), {56}, {56: 56}, {0: 56}, range(56, 57), iter([56]),
                      Stamp(), [], [[56]], [(56,)], Stamp, packed, memoryview(b"8"), frozenset([56]), map(int, "56")):
            self.assert_bad(thing)

    def test_numbers_that_are_none_from_0_to_255(self):
        rows = [packed(stamp) for stamp in drawn_stamps(10)] + [[56]]
        for row in rows:
            for at in range(len(row)):
                for number in (row[at] + 256, row[at] - 256, -1, 256, SIXTY, -SIXTY, 10 ** 60):
                    self.assert_bad(row[:at] + [number] + row[at + 1:])

    def test_no_whole_numbers_at_all(self):
        for row in ([56], packed(Stamp((1, 0), 5)), packed(Stamp(((1, 0), 1), (1, 0, 1)))):
            for at in range(len(row)):
                for thing in odd_things():
                    self.assert_bad(row[:at] + [thing] + row[at + 1:])
                self.assert_bad(row[:at] + [float(row[at])] + row[at + 1:])
                self.assert_bad(row[:at] + [str(row[at])] + row[at + 1:])
                self.assert_bad(row[:at] + [[row[at]]] + row[at + 1:])
        for thing in odd_things():
            self.assert_bad([thing])
            self.assert_bad([56, thing])

    def test_truths_are_no_numbers(self):
        for stamp in [Stamp(0, number) for number in range(600)] + drawn_stamps(100):
            row = packed(stamp)
            for at, number in enumerate(row):
                if number in (0, 1):
                    self.assert_bad(row[:at] + [bool(number)] + row[at + 1:])

    def test_rows_that_are_cut_or_made_longer(self):
        for stamp in drawn_stamps(100) + [Stamp(), Stamp(0, SIXTY), Stamp((1, 0), (SIXTY, 0, 1))]:
            row = packed(stamp)
            for many in range(len(row)):
                self.assert_bad(row[:many])
            for more in ([0], [1], [128], [255], [0, 0], [56], row, [0] * 1000):
                self.assert_bad(row + more)

    def test_rows_with_one_bit_exchanged(self):
        refusals = others = 0
        rows = [row for row in map(packed, drawn_stamps(200)) if len(row) < 60]
        for row in rows + [[56]]:
            stamp = unpacked(row)
            for at in range(8 * len(row)):
                changed = list(row)
                changed[at // 8] ^= 128 >> at % 8
                try:
                    got = unpacked(changed)
                except BadRow as refusal:
                    refusals += 1
                    self.assertIs(type(refusal), BadRow)
                else:
                    others += 1
                    self.assertNotEqual((got.own, got.told), (stamp.own, stamp.told))
                    self.assertTrue(is_least(got.own) and is_least(got.told))
                    self.assertEqual(row_for(got.own, got.told), changed)
        self.assertGreater(refusals, 1000)
        self.assertGreater(others, 1000)

    def test_bits_behind_the_last_one(self):
        for stamp in drawn_stamps(100) + [Stamp(0, number) for number in range(300)]:
            bits = own_bits(stamp.own) + told_bits(stamp.told)
            for at in range(len(bits), 8 * len(row_of(bits))):
                self.assert_bad_bits(bits + "0" * (at - len(bits)) + "1")
            self.assert_bad(row_of(bits) + [0])

    def test_own_parts_that_are_not_in_their_least_form(self):
        for bits in (
            "01000", "10000", "11000000", "11001001", "11000001", "11001000", "110001001001", "0111001001",
            "1011001001", "11" + "01001" + "000", "11" + "000" + "01001", "11" + "11001001" + "001", "0101000",
            "11" + "11" + "001000" + "001",
        ):
            self.assert_bad_bits(bits + "11")
            self.assert_bad_bits("01" + bits + "11")
            self.assert_bad_bits("10" + bits + "11")
            self.assert_bad_bits("11" + bits + "0100111")
            self.assert_bad_bits("1101001" + bits + "11")
        for own in all_owns(4):
            if is_least(own):
                self.assert_packed(own, 3, row_for(own, 3))
            else:
                self.assert_bad(row_for(own, 3))

    def test_told_parts_that_are_not_in_their_least_form(self):
        for told in [*all_tolds(3, 1), *all_tolds(2, 4), (0, 1, 2), (0, SIXTY, SIXTY), (SIXTY, 3, (1, 0, 1))]:
            if is_least(told):
                self.assert_packed((1, 0), told, row_for((1, 0), told))
            else:
                self.assert_bad(row_for((1, 0), told))
                self.assert_bad(row_for(0, (0, 0, told)))

    def test_drawn_rows(self):
        draw = random.Random(15)
        for _ in range(3000):
            row = [draw.choice([0, 255, 56, draw.randrange(256)]) for _ in range(draw.randrange(8))]
            try:
                got = unpacked(row)
            except BadRow as refusal:
                self.assertIs(type(refusal), BadRow)
            else:
                self.assertEqual(row_for(got.own, got.told), row)


class DeepTest(PackingCase):
    def test_parts_forty_deep_are_read_and_packed_again(self):
        for sides in DEEP_SIDES:
            for own in (own_chain(sides, 1, 0), own_chain(sides, 0, 1)):
                self.assertEqual(depth(own), 40)
                self.assert_packed(own, 0, row_for(own, 0))
            for told in (told_chain(sides, 1, 0), told_chain(sides, 0, SIXTY), told_chain(sides[:39], SIXTY, 0, 3)):
                self.assertEqual(depth(told), 40)
                if is_least(told):
                    self.assert_packed(1, told, row_for(1, told))
            own, told = own_chain(sides, 1, 0), told_chain(sides, 5, 0)
            self.assert_packed(own, told, row_for(own, told))

    def test_deeper_ones_are_refused_to_either_side(self):
        for sides in DEEP_SIDES:
            for more in ("L", "R", "LL", "RR", "LRLR", "L" * 60, "R" * 60):
                for own in (own_chain(sides + more, 1, 0), own_chain(sides + more, 0, 1)):
                    self.assertGreater(depth(own), 40)
                    self.assert_bad(row_for(own, 0))
                    self.assert_bad(packed(Stamp(own)))
                for told in (told_chain(sides + more, 1, 0), told_chain(sides + more, 0, 1)):
                    self.assert_bad(row_for(1, told))
                    self.assert_bad(packed(Stamp(1, told)))
                self.assert_bad(row_for(own_chain(sides, 1, 0), told_chain(sides + more, 1, 0)))
                self.assert_bad(row_for(own_chain(sides + more, 1, 0), told_chain(sides, 1, 0)))

    def test_forty_deep_beside_a_deep_half(self):
        one, other = own_chain("L" * 38, 1, 0), own_chain("R" * 38, 1, 0)
        self.assert_packed((one, other), 0, row_for((one, other), 0))
        one, other = told_chain("L" * 38, 1, 0), told_chain("R" * 38, 1, 0)
        self.assert_packed(1, (0, one, other), row_for(1, (0, one, other)))
        self.assert_packed(1, (0, other, one), row_for(1, (0, other, one)))

    def test_a_row_of_very_many_bits(self):
        for many in (1000, 200000):
            for number in (0, 1, 2, 4, 8, 16, 32, 64, 85, 128, 146, 170, 195, 219, 255):
                self.assert_bad([number] * many)
                self.assert_bad([24] + [number] * many)
                self.assert_bad([56] + [number] * many)
                self.assert_bad([0b00100000] + [number] * many + [0])
                self.assert_bad([0b00110000] + [number] * many + [0])

    def test_a_number_of_very_many_bits(self):
        number = 2 ** 5000 + 12345
        self.assert_packed(1, number, row_for(1, number))
        # Behind 0011 there are 400009 0s, a 1, as many 0s once more, and one for whole rows.
        row = [0b00110000] + [0] * 50000 + [0b00000100] + [0] * 50001
        got = unpacked(row)
        self.assertEqual(got.own, 1)
        self.assertTrue(got.told + 1 == 2 ** 400009)
        self.assertEqual(packed(got), row)

    def test_wide_parts(self):
        own, told = (1, 0), (0, 0, 1)
        for _ in range(12):
            own, told = (own, own), (1, told, told)
        told = Stamp(0, told).told
        self.assert_packed(own, told, row_for(own, told))


if __name__ == "__main__":
    unittest.main()
