package lex

import (
	"math"
	"strconv"
	"strings"
	"testing"

	"busbar/api"
)

// P9.2: names

func TestNames(t *testing.T) {
	for _, word := range []string{"a", "z", "A", "Z", "L", "R", "I0", "a1", "a_", "x_1_Y", "rung", "a0123456789_Bcde", "Z_______________", "abcdefghijklmnop"} {
		mustBeName(t, word, true)
	}
	for _, word := range []string{
		"", " ", "_", "0", "9", "_a", "1a", "0x", " a", "a ", "a b", "a\tb", "a\n", "\na", "a\x00", "\x00a", "a-b", "a.b", "-a", "+a", "a;", ";a",
		"é", "aé", "éa", "ａ", "aａ", "a٣", "a\u00aa", "\u212a", "a\u212a", "a\u0301", "ß", "a\ufffd", "\ufffd", "a\U0001d7d8", "\U0001d44e",
		"a\xff", "\xffa", "\x80", "a\x80b", "\xc1\x81", "a\xc1\xa1", "\xe1", "\xfa", "\xc1", "a\xb0", "a\xdf", "\xe0\x81\xa1",
	} {
		mustBeName(t, word, false)
	}
}

// TestNamesOfTwoBytes has every word of one and of two bytes.
func TestNamesOfTwoBytes(t *testing.T) {
	for c := range 256 {
		word := []byte{byte(c), 0}
		mustBeName(t, string(word[:1]), c >= 65 && c <= 90 || c >= 97 && c <= 122)
		for d := range 256 {
			word[1] = byte(d)
			mustBeName(t, string(word), name.Match(word))
		}
	}
}

// TestNamesEveryByte has every byte at every place of words of all lengths
// around the limit.
func TestNamesEveryByte(t *testing.T) {
	for n := 1; n <= 19; n++ {
		for at := range n {
			word := []byte("aB_9aB_9aB_9aB_9aB_"[:n])
			for c := range 256 {
				word[at] = byte(c)
				mustBeName(t, string(word), name.Match(word))
			}
		}
	}
}

func TestNameLength(t *testing.T) {
	for _, first := range []string{"a", "Z", "_", "5"} {
		for _, later := range []string{"b", "Y", "_", "0"} {
			for n := range 40 {
				ok := n <= 15 && (first == "a" || first == "Z")
				mustBeName(t, first+strings.Repeat(later, n), ok)
			}
			for _, n := range []int{255, 256, 257, 271, 272, 65536, 1 << 20} {
				mustBeName(t, first+strings.Repeat(later, n), false)
			}
		}
	}
	// 16 bytes or 16 characters, with characters of several bytes.
	mustBeName(t, "abcdefghijklmné", false)
	mustBeName(t, "abcdefghijklmnoé", false)
	mustBeName(t, "éééééééé", false)
	mustBeName(t, "abcdefghijklmno\xff", false)
	mustBeName(t, "abcdefghijklmno\n", false)
	mustBeName(t, "abcdefghijklmnop\n", false)
}

// P9.2: numbers

func TestNumberUpToMost(t *testing.T) {
	for _, most := range []int{0, 1, 2, 9, 10, 11, 63, 99, 100, 255, 256, 999, 1000} {
		for n := range most + 1 {
			mustNumber(t, strconv.Itoa(n), most, n, api.OK)
		}
		for n := most + 1; n < most+1200; n++ {
			mustNumber(t, strconv.Itoa(n), most, 0, api.ErrRange)
		}
	}
}

func TestNumberAtMost(t *testing.T) {
	for most := 0; most <= 1000000; most += 1 + most/50 {
		mustNumber(t, "0", most, 0, api.OK)
		mustNumber(t, strconv.Itoa(most/2), most, most/2, api.OK)
		mustNumber(t, strconv.Itoa(most), most, most, api.OK)
		mustNumber(t, strconv.Itoa(most+1), most, 0, api.ErrRange)
		mustNumber(t, strconv.Itoa(10*most+10), most, 0, api.ErrRange)
	}
	for _, c := range []struct {
		word    string
		most, n int
		e       api.Errno
	}{
		{"0", 0, 0, api.OK},
		{"1", 0, 0, api.ErrRange},
		{"9", 0, 0, api.ErrRange},
		{"999999", 999999, 999999, api.OK},
		{"1000000", 999999, 0, api.ErrRange},
		{"0", 1000000, 0, api.OK},
		{"999999", 1000000, 999999, api.OK},
		{"1000000", 1000000, 1000000, api.OK},
		{"1000001", 1000000, 0, api.ErrRange},
		{"1000010", 1000000, 0, api.ErrRange},
		{"10000000", 1000000, 0, api.ErrRange},
	} {
		mustNumber(t, c.word, c.most, c.n, c.e)
	}
}

// TestNumberMost has limits that are invalid, with words that are numbers, too
// great, and none.
func TestNumberMost(t *testing.T) {
	for _, most := range outside {
		for _, word := range []string{"0", "1", "255", "1000000", "1000001", "99999999999999999999", "", "x", "00", "-1", "+1", "\xff", strconv.Itoa(most)} {
			mustNumber(t, word, most, 0, api.ErrArg)
		}
	}
}

func TestNumberLeadingZeros(t *testing.T) {
	for _, most := range []int{0, 1, 255, 1000000} {
		mustNumber(t, "0", most, 0, api.OK)
		for _, word := range []string{
			"00", "000", "01", "001", "09", "010", "0255", "0256", "01000000", "01000001", "0x", "0x1", "0b1", "0o7", "0_1", "0 ", "0\n",
			strings.Repeat("0", 1000), "0" + strings.Repeat("9", 1000), "0" + strings.Repeat("9", 1000) + "x",
		} {
			mustNumber(t, word, most, 0, api.ErrForm)
		}
	}
}

func TestNumberForm(t *testing.T) {
	for _, most := range []int{0, 9, 255, 1000000} {
		for _, word := range []string{
			"", " ", "+", "-", "_", ".", "+1", "-1", "+0", "-0", "--1", " 1", "1 ", "1 2", "\t1", "1\t", "1\n", "\n1", "1\x00", "\x001",
			"x", "x1", "1x", "1x2", "a", "1e1", "1e0", "1.0", "1.", ".1", "1_0", "1,0", "1/", "1:", "/", ":", "1;", "#1", "1F", "Inf", "NaN",
			"٣", "1٣", "１", "1１", "²", "½", "\u0661", "\U0001d7d9", "é", "\xff", "1\xff", "\xb1", "1\xb1", "\x801", "\xc0\xb1", "\xe0\x80\xb1",
			"1" + strings.Repeat("0", 100000) + "x", "x" + strings.Repeat("0", 100000), strings.Repeat(" ", 100000),
		} {
			mustNumber(t, word, most, 0, api.ErrForm)
		}
	}
}

// TestNumberTooGreat has numbers that no int holds, or that would be small if
// they lost their upper bits.
func TestNumberTooGreat(t *testing.T) {
	for _, word := range []string{
		"65536", "65537", "2147483647", "2147483648", "4294967295", "4294967296", "4294967297", "4294967551",
		"9223372036854775807", "9223372036854775808", "9223372036854775809", "18446744073709551615", "18446744073709551616", "18446744073709551617",
		"18446744073709551871", "99999999999999999999", "184467440737095516160", "340282366920938463463374607431768211456", "340282366920938463463374607431768211457",
		strings.Repeat("1", 1000), "1" + strings.Repeat("0", 256), "1" + strings.Repeat("0", 1<<20), strings.Repeat("9", 1<<20),
	} {
		for _, most := range []int{0, 1, 255, 65535} {
			mustNumber(t, word, most, 0, api.ErrRange)
		}
		if len(word) > 6 {
			mustNumber(t, word, 1000000, 0, api.ErrRange)
		}
	}
}

// TestNumberOrder has two errors at once.
func TestNumberOrder(t *testing.T) {
	for _, most := range []int{-1, 1000001, math.MinInt, math.MaxInt} {
		mustNumber(t, "x", most, 0, api.ErrArg)
		mustNumber(t, "", most, 0, api.ErrArg)
		mustNumber(t, "1"+strings.Repeat("0", 100), most, 0, api.ErrArg)
	}
	for _, word := range []string{"256x", "x256", "0256", "-256", "99999999999999999999x", "99999999999999999999 ", "099999999999999999999", "2\xff56"} {
		mustNumber(t, word, 255, 0, api.ErrForm)
	}
}

// TestNumberEveryByte has every byte at every place of short words.
func TestNumberEveryByte(t *testing.T) {
	for n := 1; n <= 5; n++ {
		for at := range n {
			word := []byte("12345"[:n])
			for c := range 256 {
				word[at] = byte(c)
				for _, most := range []int{0, 9, 255, 12345, 1000000} {
					mustAgreeOnNumber(t, string(word), most)
				}
			}
		}
	}
}

func TestNumberShortWords(t *testing.T) {
	verdicts := map[api.Errno]int{}
	every("0129a-+ _\xff", 5, func(word string) {
		for _, most := range []int{-1, 0, 1, 12, 1290, 1000000, 1000001} {
			verdicts[mustAgreeOnNumber(t, word, most)]++
		}
	})
	every("09", 12, func(word string) { verdicts[mustAgreeOnNumber(t, word, 99999)]++ })
	for _, e := range []api.Errno{api.OK, api.ErrArg, api.ErrForm, api.ErrRange} {
		if verdicts[e] < 100 {
			t.Error(verdicts)
		}
	}
}
