package calendar_test

import (
	"math"
	"math/rand"
	"slices"
	"testing"

	"bywash/api"
	"bywash/calendar"
)

// known is a minute, its date, and how many days and months precede it, as a person reckons them.
type known struct {
	minute      int
	date        calendar.Date
	text        string
	day, months int
}

// edges lists the minutes at which something ends, and those that follow.
func edges() []known {
	return []known{
		{0, calendar.Date{Year: 2000, Month: 1, Day: 1, Weekday: 6}, "2000-01-01 00:00", 0, 0},
		{1, calendar.Date{Year: 2000, Month: 1, Day: 1, Minute: 1, Weekday: 6}, "2000-01-01 00:01", 0, 0},
		{59, calendar.Date{Year: 2000, Month: 1, Day: 1, Minute: 59, Weekday: 6}, "2000-01-01 00:59", 0, 0},
		{60, calendar.Date{Year: 2000, Month: 1, Day: 1, Hour: 1, Weekday: 6}, "2000-01-01 01:00", 0, 0},
		{1439, calendar.Date{Year: 2000, Month: 1, Day: 1, Hour: 23, Minute: 59, Weekday: 6}, "2000-01-01 23:59", 0, 0},
		{1440, calendar.Date{Year: 2000, Month: 1, Day: 2, Weekday: 0}, "2000-01-02 00:00", 1, 0},
		{2880, calendar.Date{Year: 2000, Month: 1, Day: 3, Weekday: 1}, "2000-01-03 00:00", 2, 0},
		{44639, calendar.Date{Year: 2000, Month: 1, Day: 31, Hour: 23, Minute: 59, Weekday: 1}, "2000-01-31 23:59", 30, 0},
		{44640, calendar.Date{Year: 2000, Month: 2, Day: 1, Weekday: 2}, "2000-02-01 00:00", 31, 1},
		{86399, calendar.Date{Year: 2000, Month: 2, Day: 29, Hour: 23, Minute: 59, Weekday: 2}, "2000-02-29 23:59", 59, 1},
		{86400, calendar.Date{Year: 2000, Month: 3, Day: 1, Weekday: 3}, "2000-03-01 00:00", 60, 2},
		{527039, calendar.Date{Year: 2000, Month: 12, Day: 31, Hour: 23, Minute: 59, Weekday: 0}, "2000-12-31 23:59", 365, 11},
		{527040, calendar.Date{Year: 2001, Month: 1, Day: 1, Weekday: 1}, "2001-01-01 00:00", 366, 12},
		{611999, calendar.Date{Year: 2001, Month: 2, Day: 28, Hour: 23, Minute: 59, Weekday: 3}, "2001-02-28 23:59", 424, 13},
		{612000, calendar.Date{Year: 2001, Month: 3, Day: 1, Weekday: 4}, "2001-03-01 00:00", 425, 14},
		{last, calendar.Date{Year: 6083, Month: 1, Day: 23, Hour: 2, Minute: 7, Weekday: 6}, "6083-01-23 02:07", 1491308, 48996},
	}
}

func noMinutes() []int {
	return []int{math.MinInt, math.MinInt + 1, -1 << 32, -api.MaxMinute, -1440, -60, -2, -1, api.MaxMinute, api.MaxMinute + 1, 1 << 32, 1<<32 + 5, math.MaxInt - 1, math.MaxInt}
}

// holds holds all calls of a minute against what they are to return.
func holds(t *testing.T, k known) {
	t.Helper()
	if d, e := calendar.Of(k.minute); d != k.date || e != api.OK {
		t.Fatalf("Of(%d): %v, %d instead of %v", k.minute, d, e, k.date)
	}
	if n, e := k.date.Minutes(); n != k.minute || e != api.OK {
		t.Fatalf("Minutes of %v: %d, %d instead of %d", k.date, n, e, k.minute)
	}
	if s := k.date.Show(); s != k.text {
		t.Fatalf("Show of %v: %q instead of %q", k.date, s, k.text)
	}
	if d, e := calendar.Parse(k.text); d != k.date || e != api.OK {
		t.Fatalf("Parse(%q): %v, %d instead of %v", k.text, d, e, k.date)
	}
	if n := calendar.Day(k.minute); n != k.day {
		t.Fatalf("Day(%d): %d instead of %d", k.minute, n, k.day)
	}
	if n := calendar.Month(k.minute); n != k.months {
		t.Fatalf("Month(%d): %d instead of %d", k.minute, n, k.months)
	}
	within(t, k.minute)
}

// within holds that a minute lies between the start of its month and that of the next one, if there is a next one.
func within(t *testing.T, minute int) {
	t.Helper()
	month := calendar.Month(minute)
	from, to := calendar.MonthStart(month), calendar.MonthStart(month+1)
	if to == -1 && month == monthsOf(last) {
		to = api.MaxMinute
	}
	if minute < from || minute >= to {
		t.Fatalf("the minute %d is not from %d to %d", minute, from, to)
	}
}

// P9.1, P9.2, P9.3: the edges, as a person reckons them, and the examples of the chapter.
func TestEdges(t *testing.T) {
	for _, k := range edges() {
		holds(t, k)
	}
}

// P9.1, P9.3: every day from the first to the last, at its first and its last minute, and at one between them.
func TestEachDay(t *testing.T) {
	walk(func(w walker) {
		for _, n := range []int{0, w.day*7%1438 + 1, 1439} {
			minute := 1440*w.day + n
			if minute > last {
				continue
			}
			date := w.date
			date.Hour, date.Minute = n/60, n%60
			if d, e := calendar.Of(minute); d != date || e != api.OK {
				t.Fatalf("Of(%d): %v, %d instead of %v", minute, d, e, date)
			}
			if got, e := date.Minutes(); got != minute || e != api.OK {
				t.Fatalf("Minutes of %v: %d, %d instead of %d", date, got, e, minute)
			}
			if calendar.Day(minute) != w.day || calendar.Month(minute) != w.months {
				t.Fatalf("Day and Month of %d: %d, %d", minute, calendar.Day(minute), calendar.Month(minute))
			}
			within(t, minute)
		}
	})
}

// P9.1, P9.2, P9.3: minutes of all kinds.
func TestAnyMinute(t *testing.T) {
	r := rand.New(rand.NewSource(9))
	for range 20000 {
		n := r.Intn(api.MaxMinute)
		holds(t, known{n, dateOf(n), textOf(n), n / 1440, monthsOf(n)})
	}
	for n := range 3000 {
		for _, n := range []int{n, last - n} {
			holds(t, known{n, dateOf(n), textOf(n), n / 1440, monthsOf(n)})
		}
	}
}

// P9.1, P9.3: what is not a minute has no date, and 0 days and months.
func TestNoMinute(t *testing.T) {
	for _, n := range noMinutes() {
		if d, e := calendar.Of(n); d != (calendar.Date{}) || e != api.ErrRange {
			t.Errorf("Of(%d): %v, %d", n, d, e)
		}
		if calendar.Day(n) != 0 || calendar.Month(n) != 0 {
			t.Errorf("Day and Month of %d: %d, %d", n, calendar.Day(n), calendar.Month(n))
		}
	}
}

// years lists leap years and others, at the edges of the rule and of the numbers.
func years() (leaps, others []int) {
	leaps = []int{0, 4, 96, 400, 1600, 1996, 2000, 2004, 2096, 2400, 4000, 6080, -4, -8, -96, -104, -400, -2000, math.MinInt, -9223372036854775600, 9223372036854775600, 9223372036854775804}
	others = []int{1, 2, 3, 5, 100, 200, 300, 1900, 1999, 2001, 2002, 2003, 2100, 2200, 2300, 6000 + 83, -1, -2, -3, -5, -100, -200, -300, -1900, math.MinInt + 1, -9223372036854775700, 9223372036854775700, 9223372036854775800, math.MaxInt - 1, math.MaxInt}
	return leaps, others
}

// P9.1: leap years are those divisible by 4 but not by 100, and those divisible by 400.
func TestLeap(t *testing.T) {
	leaps, others := years()
	for _, y := range leaps {
		if !calendar.Leap(y) {
			t.Errorf("Leap(%d): false", y)
		}
	}
	for _, y := range others {
		if calendar.Leap(y) {
			t.Errorf("Leap(%d): true", y)
		}
	}
	for y := -10000; y <= 10000; y++ {
		if calendar.Leap(y) != leap(y) {
			t.Fatalf("Leap(%d): %v", y, calendar.Leap(y))
		}
	}
}

// P9.1: the lengths of the months, in any year.
func TestDays(t *testing.T) {
	leaps, others := years()
	for _, y := range slices.Concat(leaps, others) {
		february := 28
		if slices.Contains(leaps, y) {
			february = 29
		}
		for i, want := range []int{31, february, 31, 30, 31, 30, 31, 31, 30, 31, 30, 31} {
			if n := calendar.Days(y, i+1); n != want {
				t.Errorf("Days(%d, %d): %d instead of %d", y, i+1, n, want)
			}
		}
		for _, m := range []int{math.MinInt, math.MinInt + 2, -12, -10, -2, -1, 0, 13, 14, 24, 100, 1<<32 + 2, math.MaxInt} {
			if n := calendar.Days(y, m); n != 0 {
				t.Errorf("Days(%d, %d): %d", y, m, n)
			}
		}
	}
}

// P9.3: months begin at their first days, as far as there are minutes.
func TestMonthStart(t *testing.T) {
	for _, k := range [][2]int{{0, 0}, {1, 44640}, {2, 86400}, {11, 482400}, {12, 527040}, {13, 571680}, {14, 612000}} {
		if n := calendar.MonthStart(k[0]); n != k[1] {
			t.Errorf("MonthStart(%d): %d instead of %d", k[0], n, k[1])
		}
	}
	for m := range 60000 {
		want := startOf(m)
		if want > last {
			want = -1
		}
		if n := calendar.MonthStart(m); n != want {
			t.Fatalf("MonthStart(%d): %d instead of %d", m, n, want)
		}
		if want == -1 {
			continue
		}
		if calendar.Month(want) != m || m > 0 && calendar.Month(want-1) != m-1 {
			t.Fatalf("Month at the beginning of the month %d: %d", m, calendar.Month(want))
		}
	}
	if n := calendar.MonthStart(48996); n != last-22*1440-127 {
		t.Errorf("MonthStart of the last month: %d", n)
	}
	for _, m := range []int{48997, 48998, 1 << 31, 1 << 32, 1<<32 + 1, 1 << 62, math.MaxInt - 1, math.MaxInt, -1, -2, -11, -12, -13, -48996, -1 << 32, math.MinInt + 1, math.MinInt} {
		if n := calendar.MonthStart(m); n != -1 {
			t.Errorf("MonthStart(%d): %d", m, n)
		}
	}
}
