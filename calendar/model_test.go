package calendar_test

import (
	"regexp"
	"strings"
	"testing"
	"time"

	"bywash/api"
	"bywash/calendar"
)

const last = api.MaxMinute - 1

// begin is the second of 1970's count at which the minutes begin.
const begin = 946684800

// What the document asks, reckoned in other ways: by the library's own calendar, and by going through the days one by one.

func timeOf(minute int) time.Time { return time.Unix(begin+60*int64(minute), 0).UTC() }

func dateOf(minute int) calendar.Date {
	t := timeOf(minute)
	return calendar.Date{Year: t.Year(), Month: int(t.Month()), Day: t.Day(), Hour: t.Hour(), Minute: t.Minute(), Weekday: int(t.Weekday())}
}

func textOf(minute int) string { return timeOf(minute).Format("2006-01-02 15:04") }

var form = regexp.MustCompile(`\A[0-9]{4}-[0-9]{2}-[0-9]{2} [0-9]{2}:[0-9]{2}\z`)

// minuteOf returns the minute that a text tells, and whether it tells one.
func minuteOf(s string) (int, bool) {
	if !form.MatchString(s) {
		return 0, false
	}
	t, err := time.Parse("2006-01-02 15:04", s)
	minute := int((t.Unix() - begin) / 60)
	return minute, err == nil && !t.Before(timeOf(0)) && minute <= last
}

// monthsOf returns how many months precede a minute.
func monthsOf(minute int) int {
	t := timeOf(minute)
	return 12*(t.Year()-2000) + int(t.Month()) - 1
}

// startOf returns the minute at which a month begins, which is behind the last one if there is no such minute.
func startOf(month int) int {
	t := time.Date(2000, time.Month(1+month), 1, 0, 0, 0, 0, time.UTC)
	return int((t.Unix() - begin) / 60)
}

func leap(year int) bool {
	switch {
	case year%400 == 0:
		return true
	case year%100 == 0:
		return false
	}
	return year%4 == 0
}

// walker is a date at 00:00, and how many days and months precede it.
type walker struct {
	date        calendar.Date
	day, months int
}

func (w *walker) length() int {
	switch w.date.Month {
	case 4, 6, 9, 11:
		return 30
	case 2:
		if leap(w.date.Year) {
			return 29
		}
		return 28
	}
	return 31
}

// next goes on by a day.
func (w *walker) next() {
	w.day++
	w.date.Weekday = (w.date.Weekday + 1) % 7
	w.date.Day++
	if w.date.Day <= w.length() {
		return
	}
	w.months++
	w.date.Day = 1
	w.date.Month++
	if w.date.Month <= 12 {
		return
	}
	w.date.Month = 1
	w.date.Year++
}

// walk calls f for each day that has a minute.
func walk(f func(w walker)) {
	w := walker{date: calendar.Date{Year: 2000, Month: 1, Day: 1, Weekday: 6}}
	for 1440*w.day <= last {
		f(w)
		w.next()
	}
}

// The two reckonings are held against each other, as they are what the calls are held against.
func TestReckonings(t *testing.T) {
	walk(func(w walker) {
		minute := 1440 * w.day
		if dateOf(minute) != w.date || monthsOf(minute) != w.months {
			t.Fatalf("day %d: %v, %d", w.day, w.date, w.months)
		}
		if w.date.Day == 1 && startOf(w.months) != minute {
			t.Fatalf("month %d: %d", w.months, startOf(w.months))
		}
	})
	for _, s := range []string{"", "2000-01-01 00:0", "2000-01-01 00:000", "2001-02-29 00:00", "1999-12-31 23:59", "6083-01-23 02:08", "2000-01-01\n00:00", "2000-01-01 24:00"} {
		if n, ok := minuteOf(s); ok {
			t.Errorf("%q: %d", s, n)
		}
	}
	if n, ok := minuteOf("6083-01-23 02:07"); !ok || n != last || !strings.HasPrefix(textOf(n), "6083") {
		t.Errorf("the last minute: %d, %v", n, ok)
	}
}
