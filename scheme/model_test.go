package scheme_test

import (
	"regexp"
	"strconv"
	"strings"
	"testing"
	"time"

	"bywash/api"
	"bywash/scheme"
)

// last is the last minute.
const last = api.MaxMinute - 1

// What the document asks, reckoned in another way: windows by the library's own calendar, and all else window by window.

// beginning returns the minute at which a window begins; the library carries what is beyond a day or a year.
func beginning(kind, i int) int {
	month, day, hour := 1, 1, 0
	switch kind {
	case 1:
		hour = i
	case 2:
		day += i
	case 3:
		day = 3 + 7*i
	case 4:
		month += i
	}
	return int(time.Date(2000, time.Month(month), day, hour, 0, 0, 0, time.UTC).Unix()-946684800) / 60
}

// valid reports whether a scheme is valid.
func valid(s scheme.Scheme) bool {
	// Far beyond all minutes, the library can't tell the windows.
	if s.Kind < 1 || s.Kind > 5 || s.First < 0 || s.Last < s.First || s.Last > 1<<30 || s.Last-s.First > 511 {
		return false
	}
	if s.Kind == 5 {
		return s.Last < 1<<20
	}
	for i := s.First; i <= s.Last; i++ {
		if beginning(s.Kind, i+1) > last {
			return false
		}
	}
	return true
}

// window is a partition and its window.
type window struct{ part, from, to int }

// windows returns those of a valid scheme.
func windows(s scheme.Scheme) []window {
	if s.Kind == 5 {
		return nil
	}
	var l []window
	for i := s.First; i <= s.Last; i++ {
		l = append(l, window{i, beginning(s.Kind, i), beginning(s.Kind, i+1)})
	}
	return l
}

// at returns the partition of a minute, and whether there is one.
func at(l []window, minute int) (int, bool) {
	for _, w := range l {
		if w.from <= minute && minute < w.to {
			return w.part, true
		}
	}
	return 0, false
}

// within returns the partitions whose windows begin at from or later and end at to or earlier.
func within(l []window, from, to int) []int {
	var parts []int
	for _, w := range l {
		if w.from >= from && w.to <= to {
			parts = append(parts, w.part)
		}
	}
	return parts
}

var form = regexp.MustCompile(`\A(hourly|daily|weekly|monthly|static) (0|[1-9][0-9]{0,17})\.\.(0|[1-9][0-9]{0,17})\z`)

// parse returns the scheme of a text, and whether there is one.
func parse(text string) (scheme.Scheme, bool) {
	m := form.FindStringSubmatch(text)
	if m == nil {
		return scheme.Scheme{}, false
	}
	var s scheme.Scheme
	s.Kind = strings.Index("  hourly daily  weekly monthlystatic ", m[1])/7 + 1
	s.First, _ = strconv.Atoi(m[2])
	s.Last, _ = strconv.Atoi(m[3])
	if !valid(s) {
		return scheme.Scheme{}, false
	}
	return s, true
}

// greatest are the greatest partitions of valid schemes of each kind, as a person reckons them: 2^31 - 1 minutes are 35791394 hours and 7 minutes, and 1491308 days and a rest; less two days, they are 213043 weeks and a rest; and they end in the month behind the first 4083 years.
func greatest(kind int) int {
	return [...]int{35791393, 1491307, 213042, 4083*12 - 1, 1048575}[kind-1]
}

// some returns valid schemes of all kinds: at the beginning, at the end and between them, with one partition, some and as many as there may be.
func some() []scheme.Scheme {
	var l []scheme.Scheme
	for kind := 1; kind <= 5; kind++ {
		end := greatest(kind)
		for _, count := range []int{1, 2, 3, 31, 511, 512} {
			for _, first := range []int{0, 1, 2, 11, 12, 600, end / 2, end - count, end - count + 1} {
				l = append(l, scheme.Scheme{Kind: kind, First: first, Last: first + count - 1})
			}
		}
	}
	return l
}

// The reckoning is held against what a person reckons.
func TestReckoning(t *testing.T) {
	for _, k := range []struct{ kind, i, begin int }{
		{1, 0, 0}, {1, 1, 60}, {1, 24, 1440}, {1, 35791394, 2147483640},
		{2, 0, 0}, {2, 1, 1440}, {2, 60, 86400}, {2, 1491308, 2147483520},
		{3, 0, 2880}, {3, 1, 12960}, {3, 213043, 2147476320},
		{4, 0, 0}, {4, 1, 44640}, {4, 2, 86400}, {4, 12, 527040}, {4, 4083 * 12, 2147451840},
	} {
		if n := beginning(k.kind, k.i); n != k.begin {
			t.Errorf("kind %d, %d: %d instead of %d", k.kind, k.i, n, k.begin)
		}
	}
	for _, s := range some() {
		if !valid(s) {
			t.Errorf("%v is not valid", s)
		}
	}
	for kind, text := range []string{"hourly 0..7", "daily 0..7", "weekly 0..7", "monthly 0..7", "static 0..7"} {
		if s, ok := parse(text); !ok || s != (scheme.Scheme{Kind: kind + 1, Last: 7}) {
			t.Errorf("%q: %v, %v", text, s, ok)
		}
	}
}
