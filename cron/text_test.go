package cron_test

import (
	"math/rand"
	"strconv"
	"strings"
	"testing"

	"bywash/api"
	"bywash/cron"
)

// P10.1: the text of specs, and the specs of texts.
func TestText(t *testing.T) {
	for _, k := range []struct {
		text string
		l    lists
	}{
		{"* * * * *", lists{}},
		{"0 2 * * *", lists{{0}, {2}}},
		{"0 0 1 * 1", lists{{0}, {0}, {1}, nil, {1}}},
		{"59 23 31 12 6", lists{{59}, {23}, {31}, {12}, {6}}},
		{"0 0 1 1 0", lists{{0}, {0}, {1}, {1}, {0}}},
		{"0-59 0-23 1-31 1-12 0-6", lists{numbers(0, 59), numbers(0, 23), numbers(1, 31), numbers(1, 12), numbers(0, 6)}},
		{"0-1 22-23 30-31 11-12 5-6", lists{{0, 1}, {22, 23}, {30, 31}, {11, 12}, {5, 6}}},
		{"1,3-4,6-8,10 0,2,4 1,31 1-3,5-12 0,2-6", lists{{1, 3, 4, 6, 7, 8, 10}, {0, 2, 4}, {1, 31}, {1, 2, 3, 5, 6, 7, 8, 9, 10, 11, 12}, {0, 2, 3, 4, 5, 6}}},
		{"0-58 1-23 2-31 1-11 0-5", lists{numbers(0, 58), numbers(1, 23), numbers(2, 31), numbers(1, 11), numbers(0, 5)}},
		{"58-59 * 9-10 * *", lists{{58, 59}, nil, {9, 10}}},
	} {
		c := k.l.spec()
		if s := c.Show(); s != k.text {
			t.Errorf("Show of %v: %q instead of %q", c, s, k.text)
		}
		if got, e := cron.Parse(k.text); got != c || e != api.OK {
			t.Errorf("Parse(%q): %v, %d instead of %v", k.text, got, e, c)
		}
	}
}

// P10.1: texts that are no spec's own.
func TestLoose(t *testing.T) {
	for _, k := range [][2]string{
		{"0 2 * * *", "0   2 *  *      *"},
		{"0-59 * * * *", "*/1 * * * *"},
		{"0-59 0-23 1-31 1-12 0-6", "*/1 */1 */1 */1 */1"},
		{"0,59 0 1 1 0", "*/59 */59 */59 */59 */59"},
		{"0,59 0 1 1 0", "*/59 */24 */31 */12 */7"},
		{"0,30 0,12 1,16,31 1,7 0,3,6", "*/30 */12 */15 */6 */3"},
		{"1,3,5 2 2,5,8 3 1,5", "1-5/2 2-23/22 2-8/3 3-12/10 1-6/4"},
		{"0,10,20,30,40,50 * * * *", "*/10 * * * *"},
		{"5 5 5 5 5", "5-5 5-5 5-5 5-5 5-5"},
		{"5 5 5 5 5", "5-5/1 5-5/59 05 05-05 05-5/07"},
		{"5 5 5 5 5", "05 05,5 5,5,5 5-5,5 05-05/1,5"},
		{"1,3-4 * * * *", "4,3,1 * * * *"},
		{"1-6 * * * *", "4-6,1-3 * * * *"},
		{"1-6 * * * *", "1-4,3-6,2 * * * *"},
		{"1-59 * * * *", "1-30,2-59 * * * *"},
		{"0-59 * * * *", "0-59 * * * *"},
		{"0-59 * * * *", "0-30,31-59 * * * *"},
		{"0,2-3,5,15,25,35,45,55 * * * *", "2-3,00,5-55/10,0 * * * *"},
		{"0-59 * * * *", "*/1,7 * * * *"},
		{"0,7,20,40 * * * *", "7,*/20 * * * *"},
		{"0-9 * 1-9 1-9 *", "00,01,02,03,04,05,06,07,08,09 * 01,02,03,04,05,06,07,08,09 01-09/01 *"},
	} {
		c, e := cron.Parse(k[1])
		if e != api.OK || c.Show() != k[0] {
			t.Errorf("Parse(%q): %q, %d instead of %q", k[1], c.Show(), e, k[0])
		}
		if want, e := cron.Parse(k[0]); e != api.OK || c != want {
			t.Errorf("Parse(%q) is not that of %q", k[1], k[0])
		}
	}
}

// P10.1: texts without five fields, whatever else is wrong with them.
func TestFields(t *testing.T) {
	for _, s := range []string{
		"", " ", "     ", "*", "0", "* * * *", "* * * * * *", "* * * * * * *", "*****", "0 2 * *", "0 2 * * * *", "60 * * *", "60 * * * * *", "x * * * * *", "60 60 60",
		" * * * * *", "* * * * * ", "  0 2 * * *", "0 2 * * *  ", " 0 2 * * * ", " * * * *", "* * * * ", " 60 * * * *", "60 * * * ", "60 * * * * ", " * * * * * *",
		"*\t*\t*\t*\t*", "*\n*\n*\n*\n*", "*\u00a0*\u00a0*\u00a0*\u00a0*", "60 * * *\t*",
	} {
		if c, e := cron.Parse(s); c != (cron.Spec{}) || e != api.ErrForm {
			t.Errorf("Parse(%q): %v, %d", s, c, e)
		}
	}
}

// P10.1: items that have none of the forms, in each field.
func TestForm(t *testing.T) {
	for _, item := range []string{
		"x", "**", "*-5", "*/", "*/*", "*/x", "*/-1", "*/+1", "*/100", "*/001", "*/1/2", "*/1-2", "*1", "1*", "/", "/5", "-", "-1", "1-", "1--2", "1-2-3", "-1-2", "1-2/", "1-2/x", "1-2/001", "1-2/100", "1-2/3/4",
		"1/2", "5/1", "01/01", "001", "100", "010-5", "1-005", "+1", "1.", "0x1", "1_", "1\t", "\t1", "1\n", "\x00", "\xff", "1\xff", "\u0661", "1;2", "a-b", "x-2", "1-x",
		",", ",1", "1,", "1,,2", "1,*", "*,1", "*,*", "*,", ",*", "1-2,*", "*/2,", "*/2,*", "1-2,",
	} {
		for field := range 5 {
			texts := []string{"1", "1", "1", "1", "1"}
			texts[field] = item
			s := strings.Join(texts, " ")
			if c, e := cron.Parse(s); c != (cron.Spec{}) || e != api.ErrForm {
				t.Errorf("Parse(%q): %v, %d", s, c, e)
			}
		}
	}
}

// P10.1: numbers and steps in and out of range, in each field.
func TestRange(t *testing.T) {
	for field := range 5 {
		low, high := ends(field)
		least, most, above := strconv.Itoa(low), strconv.Itoa(high), strconv.Itoa(high+1)
		good := []string{least, most, "0" + least, least + "-" + most, least + "-" + least, most + "-" + most, "*/1", "*/59", "*/01", least + "-" + most + "/1", least + "-" + most + "/59", most + "-" + most + "/59"}
		bad := []string{above, "99", above + "-" + above, most + "-" + above, least + "-" + above, least + "-99", "98-99", "99-" + least, most + "-" + least, most + "-" + least + "/1", "*/0", "*/00", "*/60", "*/99",
			least + "-" + most + "/0", least + "-" + most + "/60", least + "-" + most + "/00", least + "-" + above + "/2", least + "," + above, above + "," + least, "*/60," + least, "3-2", "5-3/2", "1-2,2-1", "5-5,99"}
		if low == 1 {
			bad = append(bad, "0", "00", "0-1", "0-0", "00-05", "0-5/2", "1,0", "0,1")
		}
		for i, item := range append(good, bad...) {
			texts := []string{"*", "*", "*", "*", "*"}
			texts[field] = item
			s := strings.Join(texts, " ")
			wanted := api.OK
			if i >= len(good) {
				wanted = api.ErrRange
			}
			c, e := cron.Parse(s)
			if e != wanted || (c == cron.Spec{}) != (e != api.OK) {
				t.Errorf("Parse(%q): %v, %d", s, c, e)
			}
			if e == api.OK && (c.Any[field] || c.Check() != api.OK) {
				t.Errorf("Parse(%q): %v", s, c)
			}
		}
	}
}

// P10.1: the first of two errors, field by field and item by item; within an item, its form precedes its numbers.
func TestFirstError(t *testing.T) {
	for s, want := range map[string]api.Errno{
		"60 x * * *": api.ErrRange, "x 60 * * *": api.ErrForm, "* * * 13 x": api.ErrRange, "* * * x 7": api.ErrForm, "60 * * * x": api.ErrRange, "x * * * 7": api.ErrForm,
		"60,x * * * *": api.ErrRange, "x,60 * * * *": api.ErrForm, "1,60,x * * * *": api.ErrRange, "1,x,60 * * * *": api.ErrForm, "60, * * * *": api.ErrRange, ",60 * * * *": api.ErrForm,
		"5-3,x * * * *": api.ErrRange, "*/0,x * * * *": api.ErrRange, "x,*/0 * * * *": api.ErrForm, "60,* * * * *": api.ErrRange, "*,60 * * * *": api.ErrForm,
		"60-x * * * *": api.ErrForm, "x-60 * * * *": api.ErrForm, "60/5 * * * *": api.ErrForm, "60-70/x * * * *": api.ErrForm, "60-70/ * * * *": api.ErrForm, "60-70/100 * * * *": api.ErrForm, "5-3/x * * * *": api.ErrForm, "60-100 * * * *": api.ErrForm, "60/0 * * * *": api.ErrForm,
		"60 * * * 1-": api.ErrRange, "* 24,x 0 x *": api.ErrRange, "* * 0 x x": api.ErrRange, "* * , 0 0": api.ErrForm,
	} {
		if c, e := cron.Parse(s); c != (cron.Spec{}) || e != want {
			t.Errorf("Parse(%q): %v, %d instead of %d", s, c, e, want)
		}
	}
}

// P10.1: Parse of the text of a valid spec returns that spec.
func TestRoundTrip(t *testing.T) {
	r := rand.New(rand.NewSource(107))
	for range 5000 {
		l := someLists(r)
		c := l.spec()
		s := c.Show()
		if s != l.text() {
			t.Fatalf("Show of %v: %q instead of %q", c, s, l.text())
		}
		if got, e := cron.Parse(s); got != c || e != api.OK {
			t.Fatalf("Parse(%q): %v, %d instead of %v", s, got, e, c)
		}
	}
}

// someText returns a text that is mostly a loose text.
func someText(r *rand.Rand) string {
	var b strings.Builder
	number := func(field int) string {
		low, high := ends(field)
		n := low + r.Intn(high-low+1)
		if r.Intn(30) == 0 {
			n = r.Intn(120)
		}
		s := strconv.Itoa(n)
		if n < 10 && r.Intn(4) == 0 {
			s = "0" + s
		}
		return s
	}
	for field := range 5 {
		if field > 0 {
			b.WriteString(strings.Repeat(" ", 1+r.Intn(2)))
		}
		if r.Intn(4) == 0 {
			b.WriteString("*")
			continue
		}
		for i := range 1 + r.Intn(3) {
			if i > 0 {
				b.WriteString(",")
			}
			low, high := ends(field)
			item := number(field)
			switch r.Intn(4) {
			case 0:
				n := low + r.Intn(high-low+1)
				item = strconv.Itoa(n) + "-" + strconv.Itoa(n+r.Intn(high-n+1))
			case 1:
				item = "*/" + strconv.Itoa(1+r.Intn(59))
			case 2:
				item = strconv.Itoa(low) + "-" + number(field) + "/" + strconv.Itoa(1+r.Intn(59))
			}
			b.WriteString(item)
		}
	}
	return b.String()
}

// P10.1: Parse is as an independent reckoning says, of loose texts, and of such as one or two bytes differ in.
func TestParseModel(t *testing.T) {
	r := rand.New(rand.NewSource(108))
	seen := map[api.Errno]int{}
	for range 60000 {
		s := []byte(someText(r))
		for range r.Intn(3) {
			at := r.Intn(len(s))
			c := "0123456789 ,-/*+x\t\n\x00\xff"[r.Intn(21)]
			switch r.Intn(4) {
			case 0:
				s[at] = c
			case 1:
				s = append(s[:at], s[at+1:]...)
			case 2:
				s = append(s[:at], append([]byte{c}, s[at:]...)...)
			case 3:
				s = append(s, c)
			}
		}
		want, wanted := parse(string(s))
		c, e := cron.Parse(string(s))
		if c != want || e != wanted {
			t.Fatalf("Parse(%q): %v, %d instead of %v, %d", s, c, e, want, wanted)
		}
		seen[e]++
		if e == api.OK && (c.Check() != api.OK || c != again(t, c)) {
			t.Fatalf("Parse(%q): %v", s, c)
		}
	}
	if len(seen) != 3 {
		t.Errorf("only these errors came up: %v", seen)
	}
}

// again returns the spec of the text of a spec.
func again(t *testing.T, c cron.Spec) cron.Spec {
	t.Helper()
	return must(t, c.Show())
}

// P10.1: each text that differs by one byte from one of these is read as an independent reckoning says.
func TestParseNear(t *testing.T) {
	for _, s := range []string{"0 2 * * *", "5,7-9 */7 1-31/2 10,12 0-6", "*  01 *  *  *"} {
		for at := range len(s) + 1 {
			for b := range 256 {
				near := []string{s[:at] + string([]byte{byte(b)}) + s[at:]}
				if at < len(s) {
					near = append(near, s[:at]+string([]byte{byte(b)})+s[at+1:], s[:at]+s[at+1:])
				}
				for _, s := range near {
					want, wanted := parse(s)
					if c, e := cron.Parse(s); c != want || e != wanted {
						t.Fatalf("Parse(%q): %v, %d instead of %v, %d", s, c, e, want, wanted)
					}
				}
			}
		}
	}
}

// P1, P10.1: long texts end soon.
func TestLong(t *testing.T) {
	const n = 1 << 18
	for s, want := range map[string]api.Errno{
		strings.Repeat(" ", n):                             api.ErrForm,
		strings.Repeat("* ", n):                            api.ErrForm,
		strings.Repeat("*", n) + " * * * *":                api.ErrForm,
		strings.Repeat("1-", n) + " * * * *":               api.ErrForm,
		strings.Repeat("1/", n) + " * * * *":               api.ErrForm,
		strings.Repeat("0", n) + " * * * *":                api.ErrForm,
		strings.Repeat("7,", n) + " * * * *":               api.ErrForm,
		strings.Repeat("7,", n) + "60 * * * *":             api.ErrRange,
		strings.Repeat("7,", n) + "7 * * * *":              api.OK,
		"*" + strings.Repeat(" ", n) + "* * * *":           api.OK,
		"* * * *" + strings.Repeat(" ", n) + "7":           api.ErrRange,
		strings.Repeat("*/1,", n) + "*/1 1 1 1 " + "0-6/3": api.OK,
	} {
		if _, e := cron.Parse(s); e != want {
			t.Errorf("Parse(%q..): %d instead of %d", s[:5], e, want)
		}
	}
}
