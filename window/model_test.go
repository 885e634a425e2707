package window_test

import (
	"math"
	"regexp"
	"strconv"
	"testing"
	"time"

	"bywash/api"
	"bywash/scheme"
	"bywash/window"
)

// What the document asks, reckoned in another way: windows by the library's own calendar, and all else partition by partition.

// beginning returns the minute at which a window begins; the library carries what is beyond a day or a year.
func beginning(kind, i int) int {
	month, day, hour := 1, 1, 0
	switch kind {
	case 1:
		hour = i
	case 2:
		day += i
	case 3:
		day = 3 + 7*i
	case 4:
		month += i
	}
	return int(time.Date(2000, time.Month(month), day, hour, 0, 0, 0, time.UTC).Unix()-946684800) / 60
}

// formed reports whether the Kind and the N of a mapping are as the document asks.
func formed(m window.Mapping) bool {
	return (m.Kind == 1 || m.Kind == 4 || m.Kind == 5) && m.N == 0 || m.Kind == 2 && m.N > 0 && m.N < 513 || m.Kind == 3 && m.N != 0 && m.N < 513 && m.N > -513
}

// fits reports whether a mapping that is formed fits two valid schemes.
func fits(m window.Mapping, lower, upper scheme.Scheme) bool {
	return m.Kind < 4 && lower.Kind == upper.Kind || m.Kind == 4 && lower.Kind < 5 && upper.Kind < 5 || m.Kind == 5
}

// needs reports whether the partition i of the lower scheme needs the partition k of the upper one, both of which are there.
func needs(m window.Mapping, lower, upper scheme.Scheme, i, k int) bool {
	switch m.Kind {
	case 1:
		return i == k
	case 2:
		return k <= i && i < k+m.N
	case 3:
		return k-i == m.N
	case 4:
		return beginning(lower.Kind, i) <= beginning(upper.Kind, k) && beginning(upper.Kind, k+1) <= beginning(lower.Kind, i+1)
	}
	return true
}

// has reports whether a valid scheme has the partition i.
func has(s scheme.Scheme, i int) bool { return i >= s.First && i <= s.Last }

// of returns what a partition of the lower scheme needs.
func of(m window.Mapping, lower, upper scheme.Scheme, i int) []int {
	var list []int
	for k := upper.First; has(lower, i) && k <= upper.Last; k++ {
		if needs(m, lower, upper, i, k) {
			list = append(list, k)
		}
	}
	return list
}

// back returns what needs a partition of the upper scheme.
func back(m window.Mapping, lower, upper scheme.Scheme, k int) []int {
	var list []int
	for i := lower.First; has(upper, k) && i <= lower.Last; i++ {
		if needs(m, lower, upper, i, k) {
			list = append(list, i)
		}
	}
	return list
}

var form = regexp.MustCompile(`\A(?:(same)|(last) ([1-9][0-9]{0,2})|(shift) (-?[1-9][0-9]{0,2})|(within)|(all))\z`)

// parse returns the mapping of a text, and whether there is one.
func parse(text string) (window.Mapping, bool) {
	f := form.FindStringSubmatch(text)
	if f == nil {
		return window.Mapping{}, false
	}
	m := window.Mapping{Kind: 1}
	for kind, group := range []int{1, 2, 4, 6, 7} {
		if f[group] != "" {
			m.Kind = kind + 1
		}
	}
	m.N, _ = strconv.Atoi(f[3] + f[5])
	if !formed(m) {
		return window.Mapping{}, false
	}
	return m, true
}

// greatest are the greatest partitions of valid schemes of each kind.
func greatest(kind int) int {
	return [...]int{35791393, 1491307, 213042, 48995, 1048575}[kind-1]
}

// some returns valid schemes of a kind: at the beginning, at the end and between them, with one partition, some and as many as there may be.
func some(kind int) []scheme.Scheme {
	var l []scheme.Scheme
	end := greatest(kind)
	for _, count := range []int{1, 2, 40, api.MaxParts} {
		for _, first := range []int{0, 1, 25, end / 2, end - count + 1} {
			l = append(l, scheme.Scheme{Kind: kind, First: first, Last: first + count - 1})
		}
	}
	return l
}

// invalid returns schemes that are not valid, some of which have the kind.
func invalid(kind int) []scheme.Scheme {
	end := greatest(kind)
	return []scheme.Scheme{
		{}, {Kind: 6}, {Kind: -1}, {Kind: kind + 5}, {Kind: kind - 5}, {Kind: math.MaxInt}, {Kind: math.MinInt},
		{Kind: kind, First: -1}, {Kind: kind, First: -1, Last: -1}, {Kind: kind, First: 1}, {Kind: kind, Last: api.MaxParts}, {Kind: kind, First: end, Last: end + 1}, {Kind: kind, First: end + 1, Last: end + 1},
		{Kind: kind, First: math.MinInt, Last: math.MaxInt}, {Kind: kind, First: math.MaxInt, Last: math.MaxInt}, {Kind: kind, First: math.MinInt, Last: math.MinInt}, {Kind: kind, First: math.MaxInt, Last: math.MinInt},
	}
}

// mappings are some that are formed.
func mappings() []window.Mapping {
	l := []window.Mapping{{Kind: 1}, {Kind: 4}, {Kind: 5}}
	for _, n := range []int{1, 2, 3, 39, 40, 41, 511, 512} {
		l = append(l, window.Mapping{Kind: 2, N: n}, window.Mapping{Kind: 3, N: n}, window.Mapping{Kind: 3, N: -n})
	}
	return l
}

// The reckoning is held against what a person reckons.
func TestReckoning(t *testing.T) {
	for _, k := range []struct{ kind, i, begin int }{
		{1, 0, 0}, {1, 24, 1440}, {1, 35791394, 2147483640}, {2, 0, 0}, {2, 60, 86400}, {2, 1491308, 2147483520},
		{3, 0, 2880}, {3, 1, 12960}, {3, 213043, 2147476320}, {4, 0, 0}, {4, 1, 44640}, {4, 2, 86400}, {4, 12, 527040}, {4, 48996, 2147451840},
	} {
		if n := beginning(k.kind, k.i); n != k.begin {
			t.Errorf("kind %d, %d: %d instead of %d", k.kind, k.i, n, k.begin)
		}
	}
	for kind := 1; kind <= 5; kind++ {
		for _, s := range some(kind) {
			if e := s.Check(); e != api.OK {
				t.Errorf("%v is not valid: %d", s, e)
			}
		}
		for _, s := range invalid(kind) {
			if e := s.Check(); e != api.ErrScheme {
				t.Errorf("%v: %d", s, e)
			}
		}
	}
	for _, m := range mappings() {
		if !formed(m) {
			t.Errorf("%v is not formed", m)
		}
	}
	for text, m := range map[string]window.Mapping{"same": {Kind: 1}, "last 512": {Kind: 2, N: 512}, "shift 7": {Kind: 3, N: 7}, "shift -512": {Kind: 3, N: -512}, "within": {Kind: 4}, "all": {Kind: 5}} {
		if p, ok := parse(text); p != m || !ok {
			t.Errorf("%q: %v, %v", text, p, ok)
		}
	}
}
