package scheme_test

import (
	"math"
	"math/rand"
	"strconv"
	"strings"
	"testing"

	"bywash/api"
	"bywash/scheme"
)

// P11.3: the text of each kind, and the scheme of this text.
func TestText(t *testing.T) {
	for text, s := range map[string]scheme.Scheme{
		"hourly 0..0":               {Kind: 1},
		"daily 0..6":                {Kind: 2, Last: 6},
		"weekly 10..19":             {Kind: 3, First: 10, Last: 19},
		"monthly 100..611":          {Kind: 4, First: 100, Last: 611},
		"static 7..7":               {Kind: 5, First: 7, Last: 7},
		"hourly 35790882..35791393": {Kind: 1, First: 35790882, Last: 35791393},
		"daily 1491307..1491307":    {Kind: 2, First: 1491307, Last: 1491307},
		"weekly 213042..213042":     {Kind: 3, First: 213042, Last: 213042},
		"monthly 48995..48995":      {Kind: 4, First: 48995, Last: 48995},
		"static 1048064..1048575":   {Kind: 5, First: 1048064, Last: 1048575},
		"daily 9..10":               {Kind: 2, First: 9, Last: 10},
		"static 0..511":             {Kind: 5, Last: 511},
		"hourly 1000000..1000001":   {Kind: 1, First: 1000000, Last: 1000001},
	} {
		if shown := s.Show(); shown != text {
			t.Errorf("Show of %v: %q instead of %q", s, shown, text)
		}
		if p, e := scheme.Parse(text); p != s || e != api.OK {
			t.Errorf("Parse(%q): %v, %d instead of %v", text, p, e, s)
		}
	}
}

// P11.3: schemes that are not valid have no text.
func TestShowInvalid(t *testing.T) {
	for _, s := range []scheme.Scheme{
		{}, {Kind: 6}, {Kind: -1}, {Kind: math.MinInt}, {Kind: math.MaxInt}, {Kind: 1, First: -1}, {Kind: 1, First: -1, Last: -1}, {Kind: 2, First: 1}, {Kind: 2, Last: 512}, {Kind: 3, First: 213043, Last: 213043},
		{Kind: 1, First: 35791394, Last: 35791394}, {Kind: 2, First: 1491308, Last: 1491308}, {Kind: 4, First: 48996, Last: 48996}, {Kind: 5, First: 1 << 20, Last: 1 << 20}, {Kind: 5, First: math.MaxInt, Last: math.MaxInt}, {Kind: 5, First: math.MinInt, Last: math.MaxInt},
	} {
		if text := s.Show(); text != "" {
			t.Errorf("Show of %v: %q", s, text)
		}
	}
}

// refused holds that there is no scheme with this text.
func refused(t *testing.T, text string) {
	t.Helper()
	if s, e := scheme.Parse(text); s != (scheme.Scheme{}) || e != api.ErrForm {
		t.Errorf("Parse(%.100q): %v, %d", text, s, e)
	}
}

// P11.3: texts that are no scheme's.
func TestParseWrong(t *testing.T) {
	for _, text := range []string{
		"", " ", ".", "..", " ..", " 0..0", "0..0", "daily", "daily ", "daily 0", "daily 0.", "daily 0..", "daily ..", "daily ..0", "daily 0 0", "daily 0.0", "daily 0...6", "daily 0....6", "daily 0. .6", "daily 0-6", "daily 0,6",
		"daily0..6", "daily  0..6", "daily   0..6", " daily 0..6", "  daily 0..6", "daily 0..6 ", "daily 0..6\n", "daily 0..6\x00", "daily 0 ..6", "daily 0.. 6", "daily 0 .. 6", "daily\t0..6", "daily\n0..6", "daily\u00a00..6",
		"yearly 0..6", "dayly 0..6", "dail 0..6", "dailyy 0..6", "Daily 0..6", "DAILY 0..6", "hour 0..6", "day 0..6", "week 0..6", "month 0..6", "minutely 0..6", "all 0..6", "2 0..6", "daily daily 0..6", "hourly daily 0..6", "weekly\x00 0..6", "\xff 0..6",
		"daily +0..6", "daily 0..+6", "daily -0..6", "daily 0..-6", "daily -1..6", "daily -6..-1", "daily 0..-0", "daily --1..6", "daily 1-..6",
		"daily 00..6", "daily 0..06", "daily 01..6", "daily 000..6", "daily 0..00", "daily 0..006", "daily 1_0..12", "daily 10..1_2", "daily 0x1..6", "daily 0..0x6", "daily 0..6e0", "daily 0..6.0", "daily 0.0..6", "daily a..6", "daily 0..b", "daily 0..6a", "daily a0..6", "daily ٣..6", "daily 0..٦", "daily 0..6;", "daily 0..6..7", "daily 0..6 7", "daily 0..6daily 0..6", "daily 0..6 daily 0..6",
		// The form is right, but the scheme is not valid.
		"daily 7..6", "daily 1..0", "daily 0..512", "static 0..512", "monthly 1..513", "hourly 35791394..35791394", "daily 1491308..1491308", "weekly 213043..213043", "monthly 48996..48996", "static 1048576..1048576", "static 1048575..1048576",
		"daily 2147483647..2147483647", "daily 2147483648..2147483648", "static 4294967296..4294967296", "static 4294967297..4294967300",
		"static 9223372036854775807..9223372036854775807", "static 9223372036854775808..9223372036854775808", "static 18446744073709551615..18446744073709551616", "static 18446744073709551616..18446744073709551617", "daily 18446744073709551616..18446744073709551622", "daily 0..18446744073709551622", "daily 340282366920938463463374607431768211456..340282366920938463463374607431768211462",
	} {
		refused(t, text)
	}
}

// P1, P11.3: long texts end soon.
func TestParseLong(t *testing.T) {
	for _, part := range []string{"0", "9", "1", " ", ".", "..", "a", "-", "daily ", "daily 0..6", "\xff"} {
		long := strings.Repeat(part, 1<<20)
		for _, text := range []string{long, "daily " + long, "daily 0.." + long, "daily 0..6" + long, "daily " + long + "..6", long + " 0..6", "daily " + long + "6.." + long + "6"} {
			refused(t, text)
		}
	}
}

// parses holds what Parse returns of a text, which may be any, against the reckoning.
func parses(t *testing.T, text string) {
	t.Helper()
	want, ok := parse(text)
	if !ok {
		refused(t, text)
		return
	}
	if s, e := scheme.Parse(text); s != want || e != api.OK || s.Show() != text {
		t.Errorf("Parse(%q): %v, %d, whose text is %q, instead of %v", text, s, e, s.Show(), want)
	}
}

// P11.3: Parse of a scheme's text gives the scheme again.
func TestRoundTrip(t *testing.T) {
	for _, s := range some() {
		if p, e := scheme.Parse(s.Show()); p != s || e != api.OK {
			t.Errorf("Parse(%q): %v, %d instead of %v", s.Show(), p, e, s)
		}
	}
}

// P11.3: texts that differ from a scheme's by one byte, which is replaced, put in or left out.
func TestParseNear(t *testing.T) {
	for _, text := range []string{"hourly 0..0", "daily 9..10", "weekly 1..512", "monthly 48990..48995", "static 1048574..1048575", "hourly 35791393..35791393"} {
		parses(t, text)
		for i := range len(text) + 1 {
			for c := range 256 {
				put := string([]byte{byte(c)})
				parses(t, text[:i]+put+text[i:])
				if i < len(text) {
					parses(t, text[:i]+put+text[i+1:])
				}
			}
			if i < len(text) {
				parses(t, text[:i]+text[i+1:])
			}
		}
	}
}

// P11.3: texts that are put together of pieces, in the right order or nearly so.
func TestParseModel(t *testing.T) {
	r := rand.New(rand.NewSource(4))
	oneOf := func(l ...string) string { return l[r.Intn(len(l))] }
	number := func() string {
		n := []int{r.Intn(12), r.Intn(600), 48990 + r.Intn(10), 213040 + r.Intn(5), 1048570 + r.Intn(10), 1491300 + r.Intn(10), 35791390 + r.Intn(6)}[r.Intn(7)]
		return oneOf("", "", "", "", "", "", "", "", "0", "-", "+", " ") + strconv.Itoa(n)
	}
	known := 0
	for range 200000 {
		first := number()
		text := oneOf("hourly", "daily", "weekly", "monthly", "static", "static", "yearly", "") + oneOf(" ", " ", " ", " ", " ", " ", "", "  ") + first + oneOf("..", "..", "..", "..", "..", ".", "...", " ") + oneOf(first, number(), number()) + oneOf("", "", "", "", "", " ", ".", "0")
		parses(t, text)
		if _, ok := parse(text); ok {
			known++
		}
	}
	if known < 2000 {
		t.Errorf("only %d texts were those of schemes", known)
	}
}
