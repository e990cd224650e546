package lex_test

import (
	"math/big"
	"strconv"
	"strings"
	"testing"

	"gantline/lex"
)

// greatest is 2^62 - 1.
const greatest = "4611686018427387903"

// P19.1: numbers keep their text, noughts ahead included.
func TestNumbers(t *testing.T) {
	for _, text := range []string{"0", "00", "007", "7", "10", "12", "4294967295", "4294967296", "999999999999999999", "1000000000000000000", "4611686018427387902", greatest} {
		wantOne(t, number, text)
		for _, noughts := range []int{1, 2, 19, 20, 64, 65, 1000} {
			wantOne(t, number, strings.Repeat("0", noughts)+text)
		}
	}
	for n := range 1000 {
		wantOne(t, number, strconv.Itoa(n))
	}
}

// P19.1: numbers around the powers of two and of ten are what they are, up to 2^62 - 1.
func TestEdgesOfNumbers(t *testing.T) {
	for n := range 140 {
		for _, base := range []int64{2, 10} {
			for more := int64(-1); more <= 1; more++ {
				v := new(big.Int).Exp(big.NewInt(base), big.NewInt(int64(n)), nil)
				text := v.Add(v, big.NewInt(more)).String()
				if v.BitLen() <= 62 {
					wantOne(t, number, text)
					continue
				}
				wantFault(t, text, 0)
			}
		}
	}
}

// P19.1: a number that is too great is a fault where it begins, its noughts ahead included.
func TestTooGreat(t *testing.T) {
	list := []string{"4611686018427387904", "4611686018427387905", "4611686018427387910", "4611686018427388000", "5000000000000000000", "9223372036854775807", "9223372036854775808", "9999999999999999999",
		"10000000000000000000", "18446744073709551615", "18446744073709551616", "18446744073709551617", "46116860184273879030", "36893488147419103232", "340282366920938463463374607431768211456"}
	for _, length := range []int{20, 21, 39, 40, 64, 65, 1000, 16000} {
		list = append(list, strings.Repeat("9", length), "1"+strings.Repeat("0", length-1))
	}
	for _, text := range list {
		for _, noughts := range []string{"", "0", strings.Repeat("0", 100)} {
			wantFault(t, noughts+text, 0)
			wantFault(t, "a "+noughts+text, 2)
			wantFault(t, "-"+noughts+text+"-", 1)
			wantFault(t, noughts+text+"a", 0)
			wantFault(t, noughts+text+"#", 0)
		}
	}
}

// P19.1: a sign ahead is a word of its own, whatever number follows; there are no numbers but of digits.
func TestNoNumbers(t *testing.T) {
	w := func(kind int, text string, at int) lex.Word { return lex.Word{Kind: kind, Text: text, At: at} }
	wantWords(t, "-1", w(sign, "-", 0), w(number, "1", 1))
	wantWords(t, "+1", w(sign, "+", 0), w(number, "1", 1))
	wantWords(t, "-"+greatest, w(sign, "-", 0), w(number, greatest, 1))
	wantFault(t, "-4611686018427387904", 1)
	wantWords(t, "1.5", w(number, "1", 0), w(sign, ".", 1), w(number, "5", 2))
	wantWords(t, ".5", w(sign, ".", 0), w(number, "5", 1))
	wantWords(t, "1_000", w(number, "1", 0), w(name, "_000", 1))
	wantWords(t, "0x10", w(number, "0", 0), w(name, "x10", 1))
	wantWords(t, "0b1 0o7", w(number, "0", 0), w(name, "b1", 1), w(number, "0", 4), w(name, "o7", 5))
	wantWords(t, "1e3", w(number, "1", 0), w(name, "e3", 1))
	wantWords(t, "1e+3", w(number, "1", 0), w(name, "e", 1), w(sign, "+", 2), w(number, "3", 3))
	wantWords(t, "1,000", w(number, "1", 0), w(sign, ",", 1), w(number, "000", 2))
	wantWords(t, "08 09", w(number, "08", 0), w(number, "09", 3))
}
