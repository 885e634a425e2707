package window_test

import (
	"math"
	"math/rand"
	"slices"
	"testing"

	"bywash/api"
	"bywash/scheme"
	"bywash/window"
)

// far are numbers that no scheme has, and that no mapping has.
func far() []int {
	return []int{math.MinInt, math.MinInt + 1, math.MinInt + 512, -1 << 62, -1 << 32, -1<<32 + 3, -1 << 31, -1 << 26, 1 << 26, 1<<31 - 1, 1 << 31, 1 << 32, 1<<32 + 3, 1 << 62, math.MaxInt - 512, math.MaxInt - 1, math.MaxInt}
}

// checks holds what Check tells.
func checks(t *testing.T, m window.Mapping, lower, upper scheme.Scheme, want api.Errno) {
	t.Helper()
	if e := m.Check(lower, upper); e != want {
		t.Errorf("Check of %v over %v and %v: %d instead of %d", m, lower, upper, e, want)
	}
}

// P12.1: the kinds, and the numbers of each, with schemes that any mapping fits.
func TestCheckForm(t *testing.T) {
	s := scheme.Scheme{Kind: 2, Last: 9}
	numbers := append(far(), 0, 1, -1, 2, -2, 3, -3, 511, -511, 512, -512, 513, -513, 514, -514, 1024, -1024)
	for kind, right := range map[int][]int{
		0: {}, 1: {0}, 2: {1, 2, 3, 511, 512}, 3: {1, 2, 3, 511, 512, -1, -2, -3, -511, -512}, 4: {0}, 5: {0},
		6: {}, 7: {}, -1: {}, -2: {}, -3: {}, -4: {}, -5: {}, 255: {}, 257: {}, 1<<32 + 1: {}, 1<<32 + 2: {}, math.MinInt: {}, math.MinInt + 1: {}, math.MaxInt: {},
	} {
		for _, n := range numbers {
			want := api.ErrForm
			if slices.Contains(right, n) {
				want = api.OK
			}
			checks(t, window.Mapping{Kind: kind, N: n}, s, s, want)
		}
	}
}

// P12.1: each number from some below -MaxParts to some above MaxParts, for each kind.
func TestCheckEach(t *testing.T) {
	s := scheme.Scheme{Kind: 4, First: 3, Last: 3}
	for kind := -2; kind <= 8; kind++ {
		for n := -600; n <= 600; n++ {
			m := window.Mapping{Kind: kind, N: n}
			want := api.ErrForm
			if formed(m) {
				want = api.OK
			}
			checks(t, m, s, s, want)
		}
	}
}

// unformed are mappings whose Kind or N is wrong.
func unformed() []window.Mapping {
	l := []window.Mapping{{}, {Kind: 6}, {Kind: -1}, {Kind: 2}, {Kind: 3}, {Kind: 2, N: -1}, {Kind: 2, N: 513}, {Kind: 3, N: 513}, {Kind: 3, N: -513}, {N: 1}, {Kind: 6, N: 1}, {Kind: 2, N: 1<<32 + 1}, {Kind: 3, N: 1<<32 + 1}}
	for _, n := range append(far(), 1, -1, 512) {
		l = append(l, window.Mapping{Kind: 1, N: n}, window.Mapping{Kind: 4, N: n}, window.Mapping{Kind: 5, N: n})
	}
	for _, n := range far() {
		l = append(l, window.Mapping{Kind: 2, N: n}, window.Mapping{Kind: 3, N: n}, window.Mapping{Kind: n}, window.Mapping{Kind: n, N: n})
	}
	return l
}

// P12.1: a wrong Kind or N is told ahead of schemes that are not valid or don't fit.
func TestCheckOrder(t *testing.T) {
	daily, weekly, static := scheme.Scheme{Kind: 2, Last: 9}, scheme.Scheme{Kind: 3, Last: 9}, scheme.Scheme{Kind: 5, Last: 9}
	for _, m := range unformed() {
		for _, bad := range invalid(2) {
			checks(t, m, bad, bad, api.ErrForm)
			checks(t, m, bad, daily, api.ErrForm)
			checks(t, m, daily, bad, api.ErrForm)
		}
		checks(t, m, daily, weekly, api.ErrForm)
		checks(t, m, static, daily, api.ErrForm)
		checks(t, m, daily, static, api.ErrForm)
		checks(t, m, static, static, api.ErrForm)
		checks(t, m, daily, daily, api.ErrForm)
	}
}

// P12.1: schemes that are not valid, the one, the other and both, beside schemes of all kinds.
func TestCheckInvalid(t *testing.T) {
	for _, m := range mappings() {
		for kind := 1; kind <= 5; kind++ {
			for _, bad := range invalid(kind) {
				checks(t, m, bad, bad, api.ErrScheme)
				for other := 1; other <= 5; other++ {
					good := scheme.Scheme{Kind: other, First: 1, Last: 9}
					checks(t, m, bad, good, api.ErrScheme)
					checks(t, m, good, bad, api.ErrScheme)
				}
			}
		}
	}
}

// P12.1: which kinds of schemes a mapping fits.
func TestCheckKinds(t *testing.T) {
	for _, m := range mappings() {
		for low := 1; low <= 5; low++ {
			for up := 1; up <= 5; up++ {
				want := api.ErrScheme
				switch m.Kind {
				case 1, 2, 3:
					if low == up {
						want = api.OK
					}
				case 4:
					if low != 5 && up != 5 {
						want = api.OK
					}
				case 5:
					want = api.OK
				}
				for _, lower := range some(low) {
					for _, upper := range some(up) {
						checks(t, m, lower, upper, want)
					}
				}
			}
		}
	}
}

// holds holds what Of tells of a partition of the lower scheme.
func holds(t *testing.T, m window.Mapping, lower, upper scheme.Scheme, i int, want []int) {
	t.Helper()
	if l := m.Of(lower, upper, i); !slices.Equal(l, want) {
		t.Fatalf("%v over %v and %v: %d needs %v instead of %v", m, lower, upper, i, l, want)
	}
}

// holdsBack holds what Back tells of a partition of the upper scheme.
func holdsBack(t *testing.T, m window.Mapping, lower, upper scheme.Scheme, k int, want []int) {
	t.Helper()
	if l := m.Back(lower, upper, k); !slices.Equal(l, want) {
		t.Fatalf("%v over %v and %v: %d is needed by %v instead of %v", m, lower, upper, k, l, want)
	}
}

// P12.2: the examples of the chapter, and of the layer that builds on it.
func TestExamples(t *testing.T) {
	daily := scheme.Scheme{Kind: 2, Last: 9}
	holds(t, window.Mapping{Kind: 2, N: 3}, daily, daily, 1, []int{0, 1})
	holds(t, window.Mapping{Kind: 2, N: 3}, scheme.Scheme{Kind: 2, First: 1, Last: 9}, daily, 1, []int{0, 1})
	holds(t, window.Mapping{Kind: 4}, scheme.Scheme{Kind: 3, Last: 4}, scheme.Scheme{Kind: 2, Last: 20}, 0, []int{2, 3, 4, 5, 6, 7, 8})
}

// known is what a partition of the one scheme needs of the other, or is needed by.
type known struct {
	m            window.Mapping
	lower, upper scheme.Scheme
	i            int
	want         []int
}

// P12.2: what a person can tell of the kinds that count partitions: at both ends, beside them, and with schemes that are apart, overlap or are the same.
func TestCounted(t *testing.T) {
	same, last3, ahead, behind := window.Mapping{Kind: 1}, window.Mapping{Kind: 2, N: 3}, window.Mapping{Kind: 3, N: 2}, window.Mapping{Kind: 3, N: -2}
	a, b, c := scheme.Scheme{Kind: 2, Last: 9}, scheme.Scheme{Kind: 2, First: 5, Last: 14}, scheme.Scheme{Kind: 2, First: 20, Last: 29}
	for _, k := range []known{
		{same, a, a, 0, []int{0}}, {same, a, a, 9, []int{9}}, {same, a, a, -1, nil}, {same, a, a, 10, nil},
		{same, a, b, 4, nil}, {same, a, b, 5, []int{5}}, {same, a, b, 9, []int{9}}, {same, a, b, 10, nil}, {same, b, a, 10, nil}, {same, b, a, 9, []int{9}}, {same, a, c, 9, nil},
		{last3, a, a, 0, []int{0}}, {last3, a, a, 1, []int{0, 1}}, {last3, a, a, 2, []int{0, 1, 2}}, {last3, a, a, 9, []int{7, 8, 9}}, {last3, a, a, 10, nil}, {last3, a, a, 11, nil}, {last3, a, a, -1, nil},
		{last3, b, a, 9, []int{7, 8, 9}}, {last3, b, a, 10, []int{8, 9}}, {last3, b, a, 11, []int{9}}, {last3, b, a, 12, nil}, {last3, b, a, 5, []int{3, 4, 5}}, {last3, b, a, 4, nil},
		{last3, a, b, 4, nil}, {last3, a, b, 5, []int{5}}, {last3, a, b, 6, []int{5, 6}}, {last3, a, b, 9, []int{7, 8, 9}}, {last3, a, b, 10, nil}, {last3, a, c, 9, nil}, {last3, c, a, 20, nil},
		{window.Mapping{Kind: 2, N: 1}, a, a, 4, []int{4}}, {window.Mapping{Kind: 2, N: 10}, a, a, 9, a.Parts()}, {window.Mapping{Kind: 2, N: 9}, a, a, 9, a.Parts()[1:]}, {window.Mapping{Kind: 2, N: 512}, a, a, 9, a.Parts()}, {window.Mapping{Kind: 2, N: 21}, c, a, 29, []int{9}}, {window.Mapping{Kind: 2, N: 20}, c, a, 29, nil}, {window.Mapping{Kind: 2, N: 512}, c, a, 20, a.Parts()},
		{ahead, a, a, 0, []int{2}}, {ahead, a, a, 7, []int{9}}, {ahead, a, a, 8, nil}, {ahead, a, a, 9, nil}, {ahead, a, a, -2, nil}, {ahead, a, b, 2, nil}, {ahead, a, b, 3, []int{5}}, {ahead, b, a, 5, []int{7}}, {ahead, b, a, 8, nil},
		{behind, a, a, 0, nil}, {behind, a, a, 1, nil}, {behind, a, a, 2, []int{0}}, {behind, a, a, 9, []int{7}}, {behind, a, a, 11, nil}, {behind, b, a, 11, []int{9}}, {behind, b, a, 12, nil}, {behind, a, b, 6, nil}, {behind, a, b, 7, []int{5}},
		{window.Mapping{Kind: 3, N: 20}, a, c, 9, []int{29}}, {window.Mapping{Kind: 3, N: 11}, a, c, 9, []int{20}}, {window.Mapping{Kind: 3, N: 10}, a, c, 9, nil}, {window.Mapping{Kind: 3, N: -20}, c, a, 20, []int{0}}, {window.Mapping{Kind: 3, N: -512}, c, a, 20, nil}, {window.Mapping{Kind: 3, N: 512}, a, a, 0, nil},
	} {
		holds(t, k.m, k.lower, k.upper, k.i, k.want)
	}
	for _, k := range []known{
		{same, a, a, 0, []int{0}}, {same, a, a, 9, []int{9}}, {same, a, a, -1, nil}, {same, a, a, 10, nil}, {same, a, b, 5, []int{5}}, {same, a, b, 10, nil}, {same, b, a, 4, nil}, {same, b, a, 10, nil}, {same, c, a, 20, nil},
		{last3, a, a, 0, []int{0, 1, 2}}, {last3, a, a, 7, []int{7, 8, 9}}, {last3, a, a, 8, []int{8, 9}}, {last3, a, a, 9, []int{9}}, {last3, a, a, 10, nil}, {last3, a, a, -1, nil}, {last3, a, a, -2, nil},
		{last3, b, a, 2, nil}, {last3, b, a, 3, []int{5}}, {last3, b, a, 4, []int{5, 6}}, {last3, b, a, 9, []int{9, 10, 11}}, {last3, b, a, 10, nil}, {last3, a, b, 4, nil}, {last3, a, b, 9, []int{9}}, {last3, a, b, 10, nil}, {last3, a, c, 20, nil}, {last3, c, a, 9, nil},
		{ahead, a, a, 0, nil}, {ahead, a, a, 1, nil}, {ahead, a, a, 2, []int{0}}, {ahead, a, a, 9, []int{7}}, {ahead, a, a, 10, nil}, {ahead, a, a, 11, nil}, {ahead, a, b, 11, []int{9}}, {ahead, a, b, 12, nil}, {ahead, a, b, 4, nil},
		{behind, a, a, 0, []int{2}}, {behind, a, a, 7, []int{9}}, {behind, a, a, 8, nil}, {behind, a, a, -1, nil}, {behind, a, a, -2, nil}, {behind, b, a, 3, []int{5}}, {behind, b, a, 2, nil},
		{window.Mapping{Kind: 2, N: 512}, a, a, 0, a.Parts()}, {window.Mapping{Kind: 2, N: 512}, c, a, 0, c.Parts()}, {window.Mapping{Kind: 2, N: 20}, c, a, 0, nil}, {window.Mapping{Kind: 2, N: 21}, c, a, 0, []int{20}},
	} {
		holdsBack(t, k.m, k.lower, k.upper, k.i, k.want)
	}
}

// P12.2: what a person can tell of within, for each pair of kinds that have windows.
func TestWithin(t *testing.T) {
	hourly, daily, weekly, monthly := scheme.Scheme{Kind: 1, Last: 400}, scheme.Scheme{Kind: 2, Last: 60}, scheme.Scheme{Kind: 3, Last: 30}, scheme.Scheme{Kind: 4, Last: 11}
	run := func(first, end int) []int { return scheme.Scheme{Kind: 5, First: first, Last: end}.Parts() }
	later, short := scheme.Scheme{Kind: 3, First: 500, Last: 600}, scheme.Scheme{Kind: 4, First: 100, Last: 130}
	m := window.Mapping{Kind: 4}
	for _, k := range []known{
		{m, hourly, hourly, 7, []int{7}}, {m, daily, daily, 7, []int{7}}, {m, weekly, weekly, 7, []int{7}}, {m, monthly, monthly, 7, []int{7}},
		{m, hourly, daily, 24, nil}, {m, hourly, weekly, 48, nil}, {m, hourly, monthly, 0, nil}, {m, daily, weekly, 2, nil}, {m, daily, monthly, 0, nil}, {m, weekly, monthly, 4, nil},
		{m, daily, hourly, 0, run(0, 23)}, {m, daily, hourly, 1, run(24, 47)}, {m, daily, hourly, 16, run(384, 400)}, {m, daily, hourly, 17, nil}, {m, daily, hourly, 61, nil},
		{m, weekly, hourly, 0, run(48, 215)}, {m, weekly, hourly, 1, run(216, 383)}, {m, weekly, hourly, 2, run(384, 400)}, {m, weekly, hourly, 3, nil},
		{m, monthly, hourly, 0, run(0, 400)}, {m, monthly, hourly, 1, nil}, {m, weekly, daily, 0, run(2, 8)}, {m, weekly, daily, 8, run(58, 60)}, {m, weekly, daily, -1, nil},
		{m, monthly, daily, 0, run(0, 30)}, {m, monthly, daily, 1, run(31, 59)}, {m, monthly, daily, 2, run(60, 60)},
		// Week 4 lies over the end of January, and week 8 over that of February.
		{m, monthly, weekly, 0, run(0, 3)}, {m, monthly, weekly, 1, run(5, 7)}, {m, monthly, weekly, 2, run(9, 11)},
		// April 2000 ends with a Sunday, May begins with a Monday, and February 2010 does both.
		{m, monthly, weekly, 3, run(13, 16)}, {m, monthly, weekly, 4, run(17, 20)}, {m, short, later, 121, run(526, 529)}, {m, later, short, 526, nil},
	} {
		holds(t, k.m, k.lower, k.upper, k.i, k.want)
	}
	for _, k := range []known{
		{m, hourly, hourly, 400, []int{400}}, {m, hourly, hourly, 401, nil}, {m, monthly, monthly, 11, []int{11}}, {m, monthly, monthly, 12, nil}, {m, monthly, monthly, -1, nil},
		{m, daily, hourly, 23, []int{0}}, {m, daily, hourly, 24, []int{1}}, {m, daily, hourly, 400, []int{16}}, {m, daily, hourly, 401, nil}, {m, weekly, hourly, 47, nil}, {m, weekly, hourly, 48, []int{0}}, {m, weekly, hourly, 215, []int{0}}, {m, weekly, hourly, 216, []int{1}},
		{m, weekly, daily, 1, nil}, {m, weekly, daily, 2, []int{0}}, {m, weekly, daily, 8, []int{0}}, {m, weekly, daily, 9, []int{1}}, {m, monthly, daily, 30, []int{0}}, {m, monthly, daily, 31, []int{1}}, {m, monthly, daily, 60, []int{2}},
		{m, monthly, weekly, 3, []int{0}}, {m, monthly, weekly, 4, nil}, {m, monthly, weekly, 5, []int{1}}, {m, monthly, weekly, 16, []int{3}}, {m, monthly, weekly, 17, []int{4}}, {m, monthly, weekly, 31, nil}, {m, short, later, 525, []int{120}}, {m, short, later, 526, []int{121}}, {m, short, later, 529, []int{121}}, {m, short, later, 530, []int{122}},
		{m, hourly, daily, 0, nil}, {m, daily, weekly, 0, nil}, {m, weekly, monthly, 1, nil}, {m, hourly, monthly, 0, nil},
	} {
		holdsBack(t, k.m, k.lower, k.upper, k.i, k.want)
	}
}

// P12.2: all, over schemes of all kinds.
func TestAll(t *testing.T) {
	m := window.Mapping{Kind: 5}
	for low := 1; low <= 5; low++ {
		for up := 1; up <= 5; up++ {
			for _, count := range []int{1, 7, api.MaxParts} {
				lower, upper := scheme.Scheme{Kind: low, First: 3, Last: 2 + count}, scheme.Scheme{Kind: up, First: 40, Last: 42}
				holds(t, m, lower, upper, 3, []int{40, 41, 42})
				holds(t, m, lower, upper, 2+count, []int{40, 41, 42})
				holds(t, m, lower, upper, 2, nil)
				holds(t, m, lower, upper, 3+count, nil)
				holdsBack(t, m, lower, upper, 40, lower.Parts())
				holdsBack(t, m, lower, upper, 42, lower.Parts())
				holdsBack(t, m, lower, upper, 39, nil)
				holdsBack(t, m, lower, upper, 43, nil)
			}
		}
	}
}

// places are partitions of a scheme, at its ends, beside them and anywhere, and numbers that it doesn't have.
func places(r *rand.Rand, s scheme.Scheme) []int {
	l := append(far(), s.First-1, s.First, s.First+1, s.Last-1, s.Last, s.Last+1, s.First-api.MaxParts, s.Last+api.MaxParts, 0, -1)
	for range 4 {
		l = append(l, s.First+r.Intn(s.Last-s.First+1))
	}
	return l
}

// agrees holds Of and Back, for some partitions, against the reckoning.
func agrees(t *testing.T, r *rand.Rand, m window.Mapping, lower, upper scheme.Scheme) {
	t.Helper()
	for _, i := range places(r, lower) {
		holds(t, m, lower, upper, i, of(m, lower, upper, i))
	}
	for _, k := range places(r, upper) {
		holdsBack(t, m, lower, upper, k, back(m, lower, upper, k))
	}
}

// P12.2: Of and Back are as an independent reckoning says, for schemes at the beginning, at the end and between them, with one partition and with as many as there may be.
func TestModel(t *testing.T) {
	r := rand.New(rand.NewSource(1))
	for low := 1; low <= 5; low++ {
		for up := 1; up <= 5; up++ {
			for _, lower := range some(low) {
				for _, upper := range some(up) {
					fitting := slices.DeleteFunc(mappings(), func(m window.Mapping) bool { return !fits(m, lower, upper) })
					agrees(t, r, fitting[r.Intn(len(fitting))], lower, upper)
				}
			}
		}
	}
}

// near returns a valid scheme of a kind whose partitions begin somewhat before or behind a minute.
func near(r *rand.Rand, kind, minute int) scheme.Scheme {
	size := [...]int{60, 1440, 10080, 43829, 1440}[kind-1]
	first := minute/size - r.Intn(30) + r.Intn(10)
	count := []int{1, 2, 1 + r.Intn(40), 1 + r.Intn(40), 1 + r.Intn(api.MaxParts), api.MaxParts}[r.Intn(6)]
	end := greatest(kind)
	first = min(max(first, 0), end)
	return scheme.Scheme{Kind: kind, First: first, Last: min(first+count-1, end)}
}

// anyMapping returns one that is formed, whose N is most often small.
func anyMapping(r *rand.Rand) window.Mapping {
	n := 1 + []int{r.Intn(5), r.Intn(40), r.Intn(api.MaxParts)}[r.Intn(3)]
	return []window.Mapping{{Kind: 1}, {Kind: 2, N: n}, {Kind: 3, N: n}, {Kind: 3, N: -n}, {Kind: 4}, {Kind: 4}, {Kind: 4}, {Kind: 5}}[r.Intn(8)]
}

// nearby returns a mapping and two schemes that it fits, both of which are near one minute.
func nearby(r *rand.Rand) (m window.Mapping, lower, upper scheme.Scheme) {
	for {
		m = anyMapping(r)
		minute := []int{0, r.Intn(1 << 20), r.Intn(api.MaxMinute), api.MaxMinute - 1}[r.Intn(4)]
		lower, upper = near(r, 1+r.Intn(5), minute), near(r, 1+r.Intn(5), minute)
		if r.Intn(8) == 0 {
			upper = lower
		}
		if fits(m, lower, upper) {
			return m, lower, upper
		}
	}
}

// P12.2: schemes that are near each other, so that they overlap, wholly or in part, or are just apart.
func TestNearby(t *testing.T) {
	r := rand.New(rand.NewSource(2))
	for range 3000 {
		m, lower, upper := nearby(r)
		checks(t, m, lower, upper, api.OK)
		agrees(t, r, m, lower, upper)
	}
}

// P12.2: each partition, for each pair of kinds that have windows, over two years from each of some months on.
func TestWithinEach(t *testing.T) {
	m := window.Mapping{Kind: 4}
	for _, month := range []int{0, 100, 1199, 48972} {
		minute := beginning(4, month)
		for low := 1; low <= 4; low++ {
			for up := 1; up <= 4; up++ {
				lower := whole(low, minute)
				upper := whole(up, minute)
				for i := lower.First - 1; i <= lower.Last+1; i++ {
					holds(t, m, lower, upper, i, of(m, lower, upper, i))
				}
				for k := upper.First - 1; k <= upper.Last+1; k++ {
					holdsBack(t, m, lower, upper, k, back(m, lower, upper, k))
				}
			}
		}
	}
}

// whole returns a scheme of a kind whose windows begin at a minute or later, and of which there are not more than those of some twenty months.
func whole(kind, minute int) scheme.Scheme {
	s := scheme.Scheme{Kind: kind}
	for beginning(kind, s.First) < minute {
		s.First += max(1, (minute-beginning(kind, s.First))/50000)
	}
	s.Last = min(s.First+[...]int{511, 511, 90, 20}[kind-1], greatest(kind))
	return s
}

// P12.2: Of is ascending and has only what the upper scheme has, and names k for i just if Back names i for k.
func TestBothWays(t *testing.T) {
	r := rand.New(rand.NewSource(3))
	for range 300 {
		m, lower, upper := nearby(r)
		pairs := map[[2]int]int{}
		for i := lower.First - 3; i <= lower.Last+3; i++ {
			l := m.Of(lower, upper, i)
			orderly(t, l, upper)
			for _, k := range l {
				pairs[[2]int{i, k}]++
			}
		}
		for k := upper.First - 3; k <= upper.Last+3; k++ {
			l := m.Back(lower, upper, k)
			orderly(t, l, lower)
			for _, i := range l {
				pairs[[2]int{i, k}] += 2
			}
		}
		for pair, ways := range pairs {
			if ways != 3 {
				t.Fatalf("%v over %v and %v: only one way names %v", m, lower, upper, pair)
			}
		}
	}
}

// orderly holds that a list is ascending, and has only what a scheme has.
func orderly(t *testing.T, l []int, s scheme.Scheme) {
	t.Helper()
	for n, i := range l {
		if !has(s, i) || n > 0 && l[n-1] >= i {
			t.Fatalf("%v of %v", l, s)
		}
	}
}

// P12.2: all partitions of the largest schemes, for the kinds that count partitions and the greatest numbers.
func TestLargest(t *testing.T) {
	for _, m := range []window.Mapping{{Kind: 1}, {Kind: 2, N: 1}, {Kind: 2, N: 511}, {Kind: 2, N: 512}, {Kind: 3, N: 1}, {Kind: 3, N: 511}, {Kind: 3, N: 512}, {Kind: 3, N: -1}, {Kind: 3, N: -511}, {Kind: 3, N: -512}, {Kind: 5}} {
		for kind := 1; kind <= 5; kind++ {
			end := greatest(kind)
			lower := scheme.Scheme{Kind: kind, First: end - 511, Last: end}
			for _, apart := range []int{0, 1, 511, 512, 513, 1023, 1024} {
				upper := scheme.Scheme{Kind: kind, First: lower.First - apart, Last: lower.Last - apart}
				for n := 0; n < api.MaxParts; n += 73 {
					holds(t, m, lower, upper, lower.First+n, of(m, lower, upper, lower.First+n))
					holds(t, m, upper, lower, upper.First+n, of(m, upper, lower, upper.First+n))
					holdsBack(t, m, lower, upper, upper.First+n, back(m, lower, upper, upper.First+n))
					holdsBack(t, m, upper, lower, lower.First+n, back(m, upper, lower, lower.First+n))
				}
			}
		}
	}
}

// P1: where a mapping and schemes don't fit, Of and Back end as well, and name nothing.
func TestAnything(t *testing.T) {
	ask := func(m window.Mapping, lower, upper scheme.Scheme) {
		for _, i := range append(far(), 0, 1, 9, lower.First, lower.Last, upper.First, upper.Last) {
			holds(t, m, lower, upper, i, nil)
			holdsBack(t, m, lower, upper, i, nil)
		}
	}
	for kind := 1; kind <= 5; kind++ {
		good := scheme.Scheme{Kind: kind, Last: 9}
		for _, m := range unformed() {
			ask(m, good, good)
		}
		for _, m := range mappings() {
			for _, bad := range invalid(kind) {
				ask(m, bad, good)
				ask(m, good, bad)
				ask(m, bad, bad)
			}
			for other := 1; other <= 5; other++ {
				if o := (scheme.Scheme{Kind: other, Last: 9}); !fits(m, good, o) {
					ask(m, good, o)
				}
			}
		}
	}
}

// apart holds that what is written to one of two results shows in no other one, spare capacity included.
func apart(t *testing.T, one, other []int) {
	t.Helper()
	one, other = one[:cap(one)], other[:cap(other)]
	kept := slices.Clone(other)
	for i := range one {
		one[i] = -7
	}
	if !slices.Equal(other, kept) {
		t.Error("two results share memory")
	}
}

// Rules of DOC.md: results are new memory, nothing is kept of them or of what was asked before, and arguments are not modified.
func TestMemory(t *testing.T) {
	lower, upper := scheme.Scheme{Kind: 3, Last: 9}, scheme.Scheme{Kind: 3, First: 2, Last: 12}
	maps := []window.Mapping{{Kind: 1}, {Kind: 2, N: 4}, {Kind: 3, N: 2}, {Kind: 4}, {Kind: 5}}
	every := func() [][]int {
		var l [][]int
		for _, m := range maps {
			l = append(l, m.Of(lower, upper, 6), m.Back(lower, upper, 6))
		}
		return l
	}
	one, other, want := every(), every(), every()
	for i, l := range one {
		if len(l) == 0 {
			t.Errorf("result %d is empty", i)
		}
		for j, o := range one {
			if i != j {
				apart(t, l, o)
			}
		}
		for _, o := range other {
			apart(t, l, o)
		}
	}
	for i, l := range every() {
		if !slices.Equal(l, want[i]) || !slices.Equal(other[i], want[i]) {
			t.Errorf("result %d has changed: %v", i, l)
		}
	}
	if lower != (scheme.Scheme{Kind: 3, Last: 9}) || upper != (scheme.Scheme{Kind: 3, First: 2, Last: 12}) || maps[1] != (window.Mapping{Kind: 2, N: 4}) {
		t.Errorf("the arguments have changed: %v, %v, %v", lower, upper, maps)
	}
}
