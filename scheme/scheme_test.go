package scheme_test

import (
	"math"
	"math/rand"
	"slices"
	"testing"

	"bywash/api"
	"bywash/scheme"
)

// far are numbers that no scheme has, and that no minute is.
func far() []int {
	return []int{math.MinInt, math.MinInt + 1, -1 << 32, -api.MaxMinute, -1440, -60, -2, -1, api.MaxMinute, api.MaxMinute + 1, 1 << 32, 1<<32 + 5, 1 << 58, 1 << 60, 1 << 62, math.MaxInt - 1, math.MaxInt}
}

// checks holds what Check tells of a scheme, and that one which is not valid has neither a text nor partitions.
func checks(t *testing.T, s scheme.Scheme, ok bool) {
	t.Helper()
	want := api.ErrScheme
	if ok {
		want = api.OK
	}
	if e := s.Check(); e != want {
		t.Errorf("Check of %v: %d instead of %d", s, e, want)
	}
	if text := s.Show(); (text != "") != ok {
		t.Errorf("Show of %v: %q", s, text)
	}
	if !ok {
		holdsNothing(t, s)
	}
}

// holdsNothing holds that a scheme has no partitions and no windows.
func holdsNothing(t *testing.T, s scheme.Scheme) {
	t.Helper()
	if n := s.Count(); n != 0 {
		t.Errorf("Count of %v: %d", s, n)
	}
	if l := s.Parts(); len(l) != 0 {
		t.Errorf("Parts of %v: %v", s, l)
	}
	for _, i := range []int{s.First, s.Last, 0, 1, math.MinInt, math.MaxInt} {
		if s.Has(i) {
			t.Errorf("%v has %d", s, i)
		}
		if from, to, e := s.Window(i); from != 0 || to != 0 || e != api.ErrRange {
			t.Errorf("Window of %v and %d: %d, %d, %d", s, i, from, to, e)
		}
		if n, ok := s.At(i); n != 0 || ok {
			t.Errorf("At of %v and %d: %d, %v", s, i, n, ok)
		}
		if l := s.Within(i, math.MaxInt); len(l) != 0 {
			t.Errorf("Within of %v from %d on: %v", s, i, l)
		}
	}
}

// P11.1: the kinds of valid schemes, and numbers that are no kinds.
func TestKinds(t *testing.T) {
	for kind := -10; kind <= 10; kind++ {
		checks(t, scheme.Scheme{Kind: kind}, 1 <= kind && kind <= 5)
		checks(t, scheme.Scheme{Kind: kind, First: 3, Last: 8}, 1 <= kind && kind <= 5)
	}
	for _, kind := range append(far(), 255, 256, 257, 1<<32+1, math.MinInt+1, math.MinInt+5) {
		checks(t, scheme.Scheme{Kind: kind}, false)
	}
}

// P11.1: the order of First and Last, how far they are apart, and how far they go.
func TestCheck(t *testing.T) {
	for kind := 1; kind <= 5; kind++ {
		end := greatest(kind)
		for _, k := range []struct {
			first, last int
			ok          bool
		}{
			{0, 0, true}, {1, 1, true}, {7, 7, true}, {end, end, true}, {0, 1, true}, {5, 9, true},
			{-1, 0, false}, {-1, -1, false}, {-2, -1, false}, {-5, 5, false}, {0, -1, false}, {1, 0, false}, {9, 5, false}, {end, end - 1, false},
			{0, api.MaxParts - 1, true}, {0, api.MaxParts, false}, {100, 100 + api.MaxParts - 1, true}, {100, 100 + api.MaxParts, false},
			{end - api.MaxParts + 1, end, true}, {end - api.MaxParts, end, false}, {end - api.MaxParts + 2, end + 1, false}, {0, end, false},
			{end - 1, end, true}, {end, end + 1, false}, {end + 1, end + 1, false}, {end + 1, end, false},
		} {
			checks(t, scheme.Scheme{Kind: kind, First: k.first, Last: k.last}, k.ok)
		}
		for _, n := range far() {
			for _, m := range append(far(), 0, 1, end) {
				checks(t, scheme.Scheme{Kind: kind, First: n, Last: m}, false)
				checks(t, scheme.Scheme{Kind: kind, First: m, Last: n}, false)
			}
		}
	}
}

// P11.1: schemes that are valid or nearly so are as an independent reckoning says.
func TestCheckModel(t *testing.T) {
	r := rand.New(rand.NewSource(1))
	for range 10000 {
		s := scheme.Scheme{Kind: r.Intn(7)}
		bounds := []int{0, 600, 48996, 213043, 1048576, 1491308, 35791394, 1 << 31}
		s.Last = bounds[r.Intn(len(bounds))] + r.Intn(5) - 2
		s.First = s.Last - []int{r.Intn(4) - 1, 509 + r.Intn(5), r.Intn(600)}[r.Intn(3)]
		checks(t, s, valid(s))
	}
}

// P11.1: the partitions of valid schemes, at their ends and beside them.
func TestParts(t *testing.T) {
	for _, s := range some() {
		var want []int
		for i := s.First; i <= s.Last; i++ {
			want = append(want, i)
			if !s.Has(i) {
				t.Errorf("%v lacks %d", s, i)
			}
		}
		if n := s.Count(); n != len(want) {
			t.Errorf("Count of %v: %d", s, n)
		}
		if l := s.Parts(); !slices.Equal(l, want) {
			t.Errorf("Parts of %v: %v", s, l)
		}
		for _, i := range append(far(), s.First-1, s.First-2, s.Last+1, s.Last+2) {
			if s.Has(i) {
				t.Errorf("%v has %d", s, i)
			}
		}
	}
}

// P11.1, P11.2: the examples of the chapter.
func TestExamples(t *testing.T) {
	s := scheme.Scheme{Kind: 2, Last: 6}
	if text := s.Show(); text != "daily 0..6" || s.Count() != 7 {
		t.Errorf("%q has %d", text, s.Count())
	}
	if from, to, e := s.Window(1); from != 1440 || to != 2880 || e != api.OK {
		t.Errorf("the window of 1: %d, %d, %d", from, to, e)
	}
	s, e := scheme.Parse("weekly 0..0")
	if s != (scheme.Scheme{Kind: 3}) || e != api.OK {
		t.Errorf("weekly: %v, %d", s, e)
	}
	if from, to, e := s.Window(0); from != 2880 || to != 12960 || e != api.OK {
		t.Errorf("the window of 0: %d, %d, %d", from, to, e)
	}
}

// P11.2: windows that a person can reckon, with their first and last minutes.
func TestWindowKnown(t *testing.T) {
	for _, k := range []struct{ kind, i, from, to int }{
		{1, 0, 0, 60}, {1, 1, 60, 120}, {1, 23, 1380, 1440}, {1, 24, 1440, 1500}, {1, 35791393, 2147483580, 2147483640},
		{2, 0, 0, 1440}, {2, 1, 1440, 2880}, {2, 59, 84960, 86400}, {2, 1491307, 2147482080, 2147483520},
		// Week 0 begins on Monday, 2000-01-03.
		{3, 0, 2 * 1440, 9 * 1440}, {3, 1, 9 * 1440, 16 * 1440}, {3, 51, 2880 + 51*10080, 2880 + 52*10080}, {3, 213042, 2147466240, 2147476320},
		// January has 31 days; February 29 in 2000, 28 in 2001 and in 2100; April has 30.
		{4, 0, 0, 31 * 1440}, {4, 1, 31 * 1440, 60 * 1440}, {4, 2, 60 * 1440, 91 * 1440}, {4, 3, 91 * 1440, 121 * 1440}, {4, 11, 335 * 1440, 366 * 1440},
		{4, 12, 366 * 1440, 397 * 1440}, {4, 13, 397 * 1440, 425 * 1440}, {4, 1201, 36556 * 1440, 36584 * 1440}, {4, 4801, 146128 * 1440, 146157 * 1440}, {4, 48995, 2147407200, 2147451840},
	} {
		s := scheme.Scheme{Kind: k.kind, First: k.i, Last: k.i}
		if from, to, e := s.Window(k.i); from != k.from || to != k.to || e != api.OK {
			t.Errorf("Window of %v: %d, %d, %d", s, from, to, e)
		}
		for minute, want := range map[int]bool{k.from - 1: false, k.from: true, k.from + 1: true, (k.from + k.to) / 2: true, k.to - 1: true, k.to: false, k.to + 1: false} {
			i, ok := s.At(minute)
			if ok != want || ok && i != k.i || !ok && i != 0 {
				t.Errorf("At of %v and %d: %d, %v", s, minute, i, ok)
			}
		}
	}
}

// P11.2: the windows of a scheme are as an independent reckoning says, and follow one another.
func TestWindows(t *testing.T) {
	for _, s := range some() {
		before := -1
		for _, w := range windows(s) {
			from, to, e := s.Window(w.part)
			if from != w.from || to != w.to || e != api.OK {
				t.Fatalf("Window of %v and %d: %d, %d, %d", s, w.part, from, to, e)
			}
			if from >= to || w.part > s.First && from != before {
				t.Fatalf("the window of %v and %d, from %d to %d, doesn't follow the one that ends at %d", s, w.part, from, to, before)
			}
			before = to
		}
	}
}

// P11.2: partitions that a scheme doesn't have, and static ones, in the order of their errors.
func TestWindowErrors(t *testing.T) {
	for _, s := range some() {
		for _, i := range append(far(), s.First-1, s.First-2, s.Last+1, s.Last+2) {
			if from, to, e := s.Window(i); from != 0 || to != 0 || e != api.ErrRange {
				t.Errorf("Window of %v and %d: %d, %d, %d", s, i, from, to, e)
			}
		}
		if s.Kind != 5 {
			continue
		}
		for i := s.First; i <= s.Last; i++ {
			if from, to, e := s.Window(i); from != 0 || to != 0 || e != api.ErrScheme {
				t.Errorf("Window of %v and %d: %d, %d, %d", s, i, from, to, e)
			}
		}
	}
}

// tells holds what At tells of a minute.
func tells(t *testing.T, s scheme.Scheme, l []window, minute int) {
	t.Helper()
	want, has := at(l, minute)
	if i, ok := s.At(minute); i != want || ok != has {
		t.Fatalf("At of %v and %d: %d, %v instead of %d, %v", s, minute, i, ok, want, has)
	}
}

// P11.2: At at the edges of all windows, before the first and behind the last one, and for numbers that are no minutes.
func TestAtEdges(t *testing.T) {
	for _, s := range some() {
		l := windows(s)
		for _, w := range l {
			for _, minute := range []int{w.from - 1, w.from, w.from + 1, w.to - 1, w.to, w.to + 1} {
				tells(t, s, l, minute)
			}
		}
		for _, minute := range append(far(), 0, 1, 59, 60, 2879, 2880, last-1, last) {
			tells(t, s, l, minute)
		}
	}
}

// P11.2: each minute lies in just the window that At tells, minute by minute.
func TestAtEach(t *testing.T) {
	for _, s := range []scheme.Scheme{
		{Kind: 1, First: 1, Last: 40}, {Kind: 1, First: 35791390, Last: 35791393}, {Kind: 2, First: 1, Last: 3}, {Kind: 2, First: 1491305, Last: 1491307},
		{Kind: 3, First: 0, Last: 1}, {Kind: 3, First: 213042, Last: 213042}, {Kind: 4, First: 1, Last: 1}, {Kind: 4, First: 48995, Last: 48995},
	} {
		l := windows(s)
		for minute := l[0].from - 3000; minute < l[len(l)-1].to+3000; minute++ {
			tells(t, s, l, minute)
			var in []int
			for _, i := range s.Parts() {
				if from, to, _ := s.Window(i); from <= minute && minute < to {
					in = append(in, i)
				}
			}
			if i, ok := s.At(minute); ok != (len(in) == 1) || ok && i != in[0] || len(in) > 1 {
				t.Fatalf("At of %v and %d: %d, %v, but it is in %v", s, minute, i, ok, in)
			}
		}
	}
}

// P11.2: At of any minutes.
func TestAtAny(t *testing.T) {
	r := rand.New(rand.NewSource(2))
	for _, s := range some() {
		l := windows(s)
		for range 200 {
			tells(t, s, l, r.Intn(api.MaxMinute))
			if len(l) > 0 {
				tells(t, s, l, l[0].from-100+r.Intn(l[len(l)-1].to-l[0].from+200))
			}
		}
	}
}

// P11.2: static partitions have no minutes, and no stretch holds them, not even where their numbers are minutes.
func TestStatic(t *testing.T) {
	for _, s := range []scheme.Scheme{{Kind: 5}, {Kind: 5, Last: 511}, {Kind: 5, First: 60, Last: 70}, {Kind: 5, First: 1<<20 - 1, Last: 1<<20 - 1}} {
		for _, n := range append(far(), 0, 1, 59, 60, 61, 69, 70, 71, 511, 512, 1<<20-1, 1<<20) {
			if i, ok := s.At(n); i != 0 || ok {
				t.Errorf("At of %v and %d: %d, %v", s, n, i, ok)
			}
			for _, from := range []int{math.MinInt, -1, 0, 1, 60, n} {
				if l := s.Within(from, n); len(l) != 0 {
					t.Errorf("Within of %v, %d and %d: %v", s, from, n, l)
				}
			}
		}
	}
}

// P11.2: stretches of which a person can tell what they hold.
func TestWithinKnown(t *testing.T) {
	daily := scheme.Scheme{Kind: 2, First: 1, Last: 4}
	weekly := scheme.Scheme{Kind: 3, Last: 2}
	monthly := scheme.Scheme{Kind: 4, Last: 4}
	for _, k := range []struct {
		s        scheme.Scheme
		from, to int
		want     []int
	}{
		{daily, 1440, 7200, []int{1, 2, 3, 4}}, {daily, 0, 9999, []int{1, 2, 3, 4}}, {daily, math.MinInt, math.MaxInt, []int{1, 2, 3, 4}},
		{daily, 1441, 7200, []int{2, 3, 4}}, {daily, 1440, 7199, []int{1, 2, 3}}, {daily, 1441, 7199, []int{2, 3}},
		{daily, 1440, 2880, []int{1}}, {daily, 2880, 4320, []int{2}}, {daily, 2000, 5000, []int{2}}, {daily, 5760, 7200, []int{4}},
		{daily, 1441, 2880, nil}, {daily, 1440, 2879, nil}, {daily, 1441, 4319, nil}, {daily, 2000, 2001, nil}, {daily, 1440, 1440, nil},
		{daily, 0, 1440, nil}, {daily, 7200, 9999, nil}, {daily, 5761, 9999, nil}, {daily, math.MinInt, 0, nil}, {daily, last, math.MaxInt, nil},
		{daily, 7200, 1440, nil}, {daily, 5000, 2000, nil}, {daily, 2881, 2880, nil}, {daily, math.MaxInt, math.MinInt, nil},
		{weekly, 0, 44640, []int{0, 1, 2}}, {weekly, 2880, 12960, []int{0}}, {weekly, 2881, 23040, []int{1}}, {weekly, 2881, 23039, nil},
		// January and February, as the weeks of other schemes ask for them.
		{monthly, 0, 86400, []int{0, 1}}, {monthly, 44640, 86400, []int{1}}, {monthly, 44640, 86399, nil}, {monthly, 1, 219600, []int{1, 2, 3, 4}},
		{scheme.Scheme{Kind: 2, Last: 20}, 2880, 12960, []int{2, 3, 4, 5, 6, 7, 8}}, {scheme.Scheme{Kind: 1, Last: 99}, 1440, 1560, []int{24, 25}},
	} {
		if l := k.s.Within(k.from, k.to); !slices.Equal(l, k.want) {
			t.Errorf("Within of %v, from %d to %d: %v instead of %v", k.s, k.from, k.to, l, k.want)
		}
	}
}

// P11.2: Within is as an independent reckoning says, for stretches that begin and end at edges, beside them and anywhere.
func TestWithinModel(t *testing.T) {
	r := rand.New(rand.NewSource(3))
	for _, s := range some() {
		l := windows(s)
		ends := append(far(), 0, 1, last)
		for range 12 {
			if len(l) > 0 {
				w := l[r.Intn(len(l))]
				ends = append(ends, w.from-1, w.from, w.from+1, w.to-1, w.to, w.to+1, w.from+r.Intn(w.to-w.from))
			}
		}
		for range 600 {
			from, to := ends[r.Intn(len(ends))], ends[r.Intn(len(ends))]
			if got, want := s.Within(from, to), within(l, from, to); !slices.Equal(got, want) {
				t.Fatalf("Within of %v, from %d to %d: %v instead of %v", s, from, to, got, want)
			}
		}
	}
}

// P1, P11.1, P11.2: any numbers in all fields and arguments.
func TestAnything(t *testing.T) {
	l := append(far(), 0, 1, 2, 5, 6, 511, 512, 1<<20-1, 1<<20, 35791393, 35791394)
	for kind := -1; kind <= 6; kind++ {
		for _, first := range l {
			for _, end := range l {
				s := scheme.Scheme{Kind: kind, First: first, Last: end}
				checks(t, s, valid(s))
			}
		}
	}
	for _, kind := range l {
		s := scheme.Scheme{Kind: kind, First: 1, Last: 2}
		checks(t, s, valid(s))
		for _, i := range l {
			s.Has(i)
			s.Window(i)
			s.At(i)
			for _, to := range l {
				s.Within(i, to)
			}
		}
	}
}

// apart holds that what is written to one of two results shows in no other one, spare capacity included.
func apart(t *testing.T, one, other []int) {
	t.Helper()
	one, other = one[:cap(one)], other[:cap(other)]
	kept := slices.Clone(other)
	for i := range one {
		one[i] = -7
	}
	if !slices.Equal(other, kept) {
		t.Error("two results share memory")
	}
}

// Rules of DOC.md: results are new memory, and nothing is kept of them or of what was asked before.
func TestMemory(t *testing.T) {
	s := scheme.Scheme{Kind: 2, First: 3, Last: 9}
	all := func() [][]int { return [][]int{s.Parts(), s.Within(4320, 14400), s.Within(5760, 12960)} }
	one, other, want := all(), all(), all()
	for i, l := range one {
		for j, o := range one {
			if i != j {
				apart(t, l, o)
			}
		}
		for _, o := range other {
			apart(t, l, o)
		}
	}
	s.Has(3)
	s.Window(3)
	s.At(4320)
	for i, l := range all() {
		if !slices.Equal(l, want[i]) || !slices.Equal(other[i], want[i]) {
			t.Errorf("result %d has changed: %v", i, l)
		}
	}
	if s != (scheme.Scheme{Kind: 2, First: 3, Last: 9}) {
		t.Errorf("the scheme has changed: %v", s)
	}
}
