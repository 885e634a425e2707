package calendar_test

import (
	"math"
	"math/rand"
	"slices"
	"strings"
	"testing"

	"bywash/api"
	"bywash/calendar"
)

// fields lists the places of the fields of a date.
func fields(d *calendar.Date) []*int {
	return []*int{&d.Year, &d.Month, &d.Day, &d.Hour, &d.Minute, &d.Weekday}
}

// refused holds that a date is not valid.
func refused(t *testing.T, d calendar.Date) {
	t.Helper()
	if n, e := d.Minutes(); n != 0 || e != api.ErrRange {
		t.Fatalf("Minutes of %v: %d, %d", d, n, e)
	}
	if s := d.Show(); s != "" {
		t.Fatalf("Show of %v: %q", d, s)
	}
}

// held holds a date that may be valid against the reckoning.
func held(t *testing.T, d calendar.Date) {
	t.Helper()
	for _, i := range []int{d.Year, d.Month, d.Day, d.Hour, d.Minute} {
		if i < 0 || i > 9999 {
			refused(t, d)
			return
		}
	}
	text := digits(d.Year, 4) + "-" + digits(d.Month, 2) + "-" + digits(d.Day, 2) + " " + digits(d.Hour, 2) + ":" + digits(d.Minute, 2)
	want, ok := minuteOf(text)
	if !ok || dateOf(want) != d {
		refused(t, d)
		return
	}
	if n, e := d.Minutes(); n != want || e != api.OK {
		t.Fatalf("Minutes of %v: %d, %d instead of %d", d, n, e, want)
	}
	if s := d.Show(); s != text {
		t.Fatalf("Show of %v: %q instead of %q", d, s, text)
	}
}

// digits returns a number that is not negative with at least so many digits.
func digits(n, count int) string {
	var b []byte
	for n > 0 || len(b) < count {
		b = append(b, byte('0'+n%10))
		n /= 10
	}
	slices.Reverse(b)
	return string(b)
}

// P9.1, P9.2: dates with one field that differs from that of a valid one.
func TestWrongField(t *testing.T) {
	for _, k := range edges() {
		for i := range 6 {
			d := k.date
			f := fields(&d)[i]
			was := *f
			for _, by := range []int{1, 2, 6, 7, 11, 12, 23, 24, 28, 29, 30, 31, 59, 60, 100, 400, 1000, 1440, 1 << 31, 1 << 32, 1 << 59, 1 << 60, 1 << 62} {
				*f = was + by
				held(t, d)
				*f = was - by
				held(t, d)
			}
			for _, n := range []int{math.MinInt, math.MinInt + 1, -1, 0, math.MaxInt - 1, math.MaxInt} {
				*f = n
				held(t, d)
			}
		}
	}
}

// P9.1: a date whose fields are out of range is not valid, even if it adds up to a minute, or wraps round to one.
func TestOutOfRange(t *testing.T) {
	for _, k := range edges() {
		for _, by := range []calendar.Date{
			{Minute: 60, Hour: -1}, {Minute: -60, Hour: 1}, {Hour: 24, Day: -1}, {Hour: -24, Day: 1}, {Month: 12, Year: -1}, {Month: -12, Year: 1}, {Weekday: 7}, {Weekday: -7},
			{Minute: 1440, Day: -1}, {Year: 1 << 62}, {Year: math.MinInt}, {Day: 1 << 59}, {Day: -1 << 59}, {Hour: 1 << 62}, {Hour: -1 << 62}, {Weekday: 7 << 60},
		} {
			d := k.date
			for i, f := range fields(&d) {
				*f += *fields(&by)[i]
			}
			refused(t, d)
		}
	}
	d := calendar.Date{Year: 2001, Month: 1, Day: 31 + 1, Weekday: 4}
	refused(t, d)
	refused(t, calendar.Date{})
}

// P9.1, P9.2: each weekday, at dates ahead of the first minute, from it to the last one, and behind it.
func TestWeekday(t *testing.T) {
	for _, d := range []calendar.Date{
		{Year: 1999, Month: 12, Day: 31, Hour: 23, Minute: 59}, {Year: 1999, Month: 12, Day: 31}, {Year: 1999, Month: 1, Day: 1}, {Year: 1996, Month: 2, Day: 29}, {Year: 0, Month: 1, Day: 1}, {Year: -2000, Month: 1, Day: 1}, {Year: math.MinInt, Month: 1, Day: 1},
		{Year: 6083, Month: 1, Day: 23, Hour: 2, Minute: 8}, {Year: 6083, Month: 1, Day: 24}, {Year: 6083, Month: 2, Day: 1}, {Year: 6084, Month: 1, Day: 1}, {Year: 9999, Month: 12, Day: 31}, {Year: 10000, Month: 1, Day: 1}, {Year: math.MaxInt, Month: 1, Day: 1},
	} {
		for w := -8; w <= 8; w++ {
			d.Weekday = w
			refused(t, d)
		}
	}
	for _, k := range edges() {
		d := k.date
		for w := -8; w <= 8; w++ {
			if d.Weekday = w; w != k.date.Weekday {
				refused(t, d)
			}
		}
	}
}

// P9.1, P9.2: dates with all fields in range or nearly so.
func TestAnyDate(t *testing.T) {
	r := rand.New(rand.NewSource(1))
	for range 100000 {
		held(t, calendar.Date{Year: 1998 + r.Intn(8), Month: r.Intn(14), Day: 26 + r.Intn(8), Hour: r.Intn(26), Minute: r.Intn(62), Weekday: r.Intn(8)})
		held(t, calendar.Date{Year: 6080 + r.Intn(6), Month: r.Intn(3), Day: 20 + r.Intn(6), Hour: r.Intn(4), Minute: r.Intn(12), Weekday: r.Intn(7)})
	}
}

// parses holds what Parse returns of a text, which may be any, against the reckoning.
func parses(t *testing.T, s string) {
	t.Helper()
	var want calendar.Date
	wantError := api.ErrForm
	n, ok := minuteOf(s)
	if ok {
		want, wantError = dateOf(n), api.OK
	}
	d, e := calendar.Parse(s)
	if d != want || e != wantError {
		t.Fatalf("Parse(%q): %v, %d instead of %v", s, d, e, want)
	}
	if ok && d.Show() != s {
		t.Fatalf("Show of Parse(%q): %q", s, d.Show())
	}
}

// P9.2: texts that are no date's.
func TestParseWrong(t *testing.T) {
	for _, s := range []string{
		"", " ", "-", "2", "2000", "2000-01-01", "00:00", "2000-01-01 00", "2000-01-01 00:", "2000-01-01 00:0", "2000-01-01 00:000", "2000-01-01 00:00:00",
		"2000-1-01 00:00", "2000-01-1 00:00", "2000-1-1 0:0", "2000-01-01 0:00", "02000-01-01 00:00", "200-01-01 00:00", "12000-01-01 00:00",
		" 2000-01-01 00:00", "2000-01-01 00:00 ", "2000-01-01  00:00", "2000-01-01 00:00\n", "2000-01-01T00:00", "2000/01/01 00:00", "2000-01-01 00.00", "20000101 0000", "2000-01-01-00:00",
		"+2000-01-01 00:00", "-2000-01-01 00:00", "+200-01-01 00:00", "2000-+1-01 00:00", "2000--1-01 00:00", "2000-01-+1 00:00", "2000-01--1 00:00", "2000-01-01 +0:00", "2000-01-01 -0:00", "2000-01-01 00:+0", "2000-01-01 00:-0", "2000-01-01 00:-1",
		"2000- 1-01 00:00", "2000-01- 1 00:00", "2000-01-01  0:00", "2000-01-01 00: 0", "2000-01-01 00:0x", "0x7d-01-01 00:00", "2_00-01-01 00:00", "2e03-01-01 00:00", "2000-1e-01 00:00", "2000-01-01 00:0\x00",
		"2000-00-01 00:00", "2000-13-01 00:00", "2000-99-01 00:00", "2000-01-00 00:00", "2000-01-32 00:00", "2000-02-30 00:00", "2001-02-29 00:00", "2100-02-29 00:00", "2000-04-31 00:00", "2000-01-99 00:00", "2000-01-01 24:00", "2000-01-01 99:00", "2000-01-01 00:60", "2000-01-01 00:99",
		"1999-12-31 23:59", "1999-12-31 24:00", "0000-01-01 00:00", "0001-01-01 00:00", "6083-01-23 02:08", "6083-01-23 03:00", "6083-01-24 00:00", "6083-02-01 00:00", "6084-01-01 00:00", "9999-12-31 23:59",
		strings.Repeat("2000-01-01 00:00", 2), strings.Repeat("0", 16), strings.Repeat("9", 16), strings.Repeat("-", 16), strings.Repeat("\xff", 16), strings.Repeat("9", 1000),
	} {
		if d, e := calendar.Parse(s); d != (calendar.Date{}) || e != api.ErrForm {
			t.Errorf("Parse(%q): %v, %d", s, d, e)
		}
	}
}

// P9.2: texts that differ from a date's by one byte, which is replaced, put in or left out.
func TestParseNear(t *testing.T) {
	for _, k := range edges() {
		for i := range len(k.text) + 1 {
			for c := range 256 {
				parses(t, k.text[:i]+string([]byte{byte(c)})+k.text[i:])
				if i < len(k.text) {
					parses(t, k.text[:i]+string([]byte{byte(c)})+k.text[i+1:])
				}
			}
			if i < len(k.text) {
				parses(t, k.text[:i]+k.text[i+1:])
			}
		}
	}
}

// P9.2: texts whose fields are all numbers, in range or out of it.
func TestParseNumbers(t *testing.T) {
	for n := range 100 {
		two := digits(n, 2)
		for _, year := range []string{"1999", "2000", "2001", "2004", "2100", "2400", "6083"} {
			for month := range 100 {
				parses(t, year+"-"+digits(month, 2)+"-"+two+" 00:00")
			}
			for _, minute := range []string{"00", "07", "08", "59", "60", "99"} {
				parses(t, year+"-01-23 "+two+":"+minute)
				parses(t, year+"-01-23 02:"+two)
			}
		}
	}
	for year := range 10000 {
		parses(t, digits(year, 4)+"-01-01 00:00")
		parses(t, digits(year, 4)+"-02-29 23:59")
	}
}

// P1: every call ends without a panic, whatever the numbers are.
func TestAnyNumbers(t *testing.T) {
	l := []int{math.MinInt, -1, 0, 1, 2000, last, math.MaxInt}
	for _, year := range l {
		for _, month := range l {
			calendar.Days(year, month)
			for _, day := range l {
				for _, hour := range l {
					for _, minute := range l {
						held(t, calendar.Date{Year: year, Month: month, Day: day, Hour: hour, Minute: minute, Weekday: 6})
					}
				}
			}
		}
	}
}
