package window_test

import (
	"math"
	"math/rand"
	"strconv"
	"strings"
	"testing"

	"bywash/api"
	"bywash/window"
)

// P12.3: the text of each kind, and the mapping of this text.
func TestText(t *testing.T) {
	for text, m := range map[string]window.Mapping{
		"same": {Kind: 1}, "within": {Kind: 4}, "all": {Kind: 5},
		"last 1": {Kind: 2, N: 1}, "last 2": {Kind: 2, N: 2}, "last 9": {Kind: 2, N: 9}, "last 10": {Kind: 2, N: 10}, "last 99": {Kind: 2, N: 99}, "last 100": {Kind: 2, N: 100}, "last 511": {Kind: 2, N: 511}, "last 512": {Kind: 2, N: 512},
		"shift 1": {Kind: 3, N: 1}, "shift -1": {Kind: 3, N: -1}, "shift 10": {Kind: 3, N: 10}, "shift -10": {Kind: 3, N: -10}, "shift 511": {Kind: 3, N: 511}, "shift -511": {Kind: 3, N: -511}, "shift 512": {Kind: 3, N: 512}, "shift -512": {Kind: 3, N: -512},
	} {
		if shown := m.Show(); shown != text {
			t.Errorf("Show of %v: %q instead of %q", m, shown, text)
		}
		if p, e := window.Parse(text); p != m || e != api.OK {
			t.Errorf("Parse(%q): %v, %d instead of %v", text, p, e, m)
		}
	}
}

// P12.3: what is no mapping has no text.
func TestShowWrong(t *testing.T) {
	for _, m := range append(unformed(), window.Mapping{Kind: 1, N: 2}, window.Mapping{Kind: math.MaxInt, N: 1}, window.Mapping{Kind: math.MinInt}) {
		if text := m.Show(); text != "" {
			t.Errorf("Show of %v: %q", m, text)
		}
	}
}

// P12.3: Parse of a mapping's text gives the mapping again, for all mappings, and no two of them have one text.
func TestRoundTrip(t *testing.T) {
	texts := map[string]window.Mapping{}
	for kind := -1; kind <= 7; kind++ {
		for n := -600; n <= 600; n++ {
			m := window.Mapping{Kind: kind, N: n}
			text := m.Show()
			if (text != "") != formed(m) {
				t.Fatalf("Show of %v: %q", m, text)
			}
			if text == "" {
				continue
			}
			if o, ok := texts[text]; ok {
				t.Fatalf("%v and %v have one text", o, m)
			}
			texts[text] = m
			if p, e := window.Parse(text); p != m || e != api.OK {
				t.Fatalf("Parse(%q): %v, %d instead of %v", text, p, e, m)
			}
		}
	}
	if len(texts) != 3+512+1024 {
		t.Errorf("there are %d texts", len(texts))
	}
}

// refused holds that there is no mapping with this text.
func refused(t *testing.T, text string) {
	t.Helper()
	if m, e := window.Parse(text); m != (window.Mapping{}) || e != api.ErrForm {
		t.Errorf("Parse(%.100q): %v, %d", text, m, e)
	}
}

// P12.3: texts that are no mapping's.
func TestParseWrong(t *testing.T) {
	for _, text := range []string{
		"", " ", "  ", "0", "1", "-1", "-", " 1", "none", "sam", "samee", "Same", "SAME", "lasts 3", "las 3", "Last 3", "shif 1", "shifts 1", "Shift 1", "with", "withins", "Within", "al", "alls", "All", "every", "1 0", "2 3", "daily", "\x00", "\xff 3", "same\x00", "last\x00 3",
		// A number is missing, or one too many.
		"last", "last ", "shift", "shift ", "shift -", "last -", "same 0", "same 1", "same -1", "same ", "within 0", "within 1", "within ", "all 0", "all 1", "all ", "all -1",
		// Spaces.
		" same", "same\n", "  same", " last 3", "last  3", "last   3", "last 3 ", "last3", "last\t3", "last\n3", "last 3\n", "last\u00a03", " shift 1", "shift  1", "shift1", "shift-1", "shift - 1", "shift -1 ", "shift  -1", " within", " all", "within\t",
		// Signs.
		"last -1", "last -3", "last +3", "last --3", "last -512", "shift +1", "shift +-1", "shift -+1", "shift --1", "shift ++1", "shift 1-", "shift -1-", "shift -0", "shift +0", "last -0", "last +0",
		// Leading zeros.
		"last 0", "last 00", "last 01", "last 003", "last 0512", "shift 0", "shift 00", "shift 01", "shift -01", "shift -001", "shift 0-1", "shift -00", "last 0000000000000000000000000000001",
		// Out of range.
		"last 513", "last 514", "last 1000", "last 5120", "shift 513", "shift -513", "shift 1000", "shift -1000",
		"last 65537", "last 4294967297", "shift 4294967297", "shift -4294967295", "last 2147483648", "last 9223372036854775807", "last 9223372036854775808", "shift -9223372036854775808", "shift -9223372036854775809", "last 18446744073709551617", "shift 18446744073709551617", "last 340282366920938463463374607431768211459", "shift -340282366920938463463374607431768211459",
		// Something that is no number, or behind it.
		"last a", "last 3a", "last a3", "last 3.", "last 3.0", "last 3e0", "last 0x3", "last 1_0", "last 3 3", "last 3 last 3", "last 3,", "last 3;", "last 3\x00", "last ٣", "shift 1 1", "shift -1 as y", "shift 1 as y", "shift a", "shift 0b1", "shift 0o1", "shift -1a", "shift 1\x00", "same same", "samesame", "same as x", "within all", "all same", "last last 3", "last same", "shift last 1", "last\xff3",
	} {
		refused(t, text)
	}
}

// P1, P12.3: long texts end soon.
func TestParseLong(t *testing.T) {
	for _, part := range []string{"0", "9", "1", " ", "-", "a", "same", "last ", "last 3", "shift -", "\xff", "\x00"} {
		long := strings.Repeat(part, 1<<20)
		for _, text := range []string{long, "same" + long, "same " + long, "last " + long, "last 3" + long, "last " + long + "3", "shift -" + long, "shift " + long + "1", long + "last 3", long + " 3", "all" + long} {
			refused(t, text)
		}
	}
}

// parses holds what Parse returns of a text, which may be any, against the reckoning.
func parses(t *testing.T, text string) {
	t.Helper()
	want, ok := parse(text)
	if !ok {
		refused(t, text)
		return
	}
	if m, e := window.Parse(text); m != want || e != api.OK || m.Show() != text {
		t.Errorf("Parse(%q): %v, %d, whose text is %q, instead of %v", text, m, e, m.Show(), want)
	}
}

// P12.3: texts that differ from a mapping's by one byte, which is replaced, put in or left out.
func TestParseNear(t *testing.T) {
	for _, text := range []string{"same", "last 1", "last 51", "last 512", "shift 1", "shift -1", "shift 512", "shift -512", "within", "all", "last", "shift", "shift -"} {
		parses(t, text)
		for i := range len(text) + 1 {
			for c := range 256 {
				put := string([]byte{byte(c)})
				parses(t, text[:i]+put+text[i:])
				if i < len(text) {
					parses(t, text[:i]+put+text[i+1:])
				}
			}
			if i < len(text) {
				parses(t, text[:i]+text[i+1:])
			}
		}
	}
}

// P12.3: texts that are put together of pieces, in the right order or nearly so.
func TestParseModel(t *testing.T) {
	r := rand.New(rand.NewSource(4))
	oneOf := func(l ...string) string { return l[r.Intn(len(l))] }
	for range 100000 {
		parses(t, oneOf("same", "last", "last", "shift", "shift", "within", "all", "")+oneOf("", " ", " ", " ", " ", "  ")+oneOf("", "", "", "", "-", "-", "+", "0")+oneOf("", strconv.Itoa(r.Intn(12)), strconv.Itoa(505+r.Intn(12)), strconv.Itoa(r.Intn(5000)))+oneOf("", "", "", "", " ", "0", "a"))
	}
}
