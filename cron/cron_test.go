package cron_test

import (
	"math"
	"math/rand"
	"slices"
	"testing"

	"bywash/api"
	"bywash/cron"
)

// must returns the spec of a text.
func must(t *testing.T, text string) cron.Spec {
	t.Helper()
	c, e := cron.Parse(text)
	if e != api.OK {
		t.Fatalf("Parse(%q): %d", text, e)
	}
	return c
}

func noMinutes() []int {
	return []int{math.MinInt, math.MinInt + 1, -1 << 32, -api.MaxMinute, -1440, -60, -2, -1, api.MaxMinute, api.MaxMinute + 1, 1 << 32, 1<<32 + 5, math.MaxInt - 1, math.MaxInt}
}

// each is the spec that every minute matches.
func each() cron.Spec { return lists{}.spec() }

// invalid returns specs that are not valid, each for one reason.
func invalid() []cron.Spec {
	all := []cron.Spec{{}}
	add := func(change func(c *cron.Spec)) {
		c := each()
		change(&c)
		all = append(all, c)
	}
	for field := range 5 {
		low, high := ends(field)
		add(func(c *cron.Spec) { c.Sets[field], c.Any[field] = 0, false })
		add(func(c *cron.Spec) { c.Sets[field] = 0 })
		for _, n := range []int{high + 1, high + 2, 60, 61, 62, 63} {
			add(func(c *cron.Spec) { c.Sets[field] |= 1 << n })
			add(func(c *cron.Spec) { c.Sets[field], c.Any[field] = 1<<n, false })
			add(func(c *cron.Spec) { c.Sets[field], c.Any[field] = c.Sets[field]|1<<n, false })
		}
		if low == 1 {
			add(func(c *cron.Spec) { c.Sets[field] |= 1 })
			add(func(c *cron.Spec) { c.Sets[field], c.Any[field] = 1, false })
			add(func(c *cron.Spec) { c.Sets[field], c.Any[field] = 3, false })
		}
		for _, n := range []int{low, low + 1, high} {
			add(func(c *cron.Spec) { c.Sets[field] &^= 1 << n })
			add(func(c *cron.Spec) { c.Sets[field] = 1 << n })
		}
	}
	return all
}

// P10.1: a spec is valid if its sets are not empty, have numbers of their fields only, and all of them in a field that is any.
func TestCheck(t *testing.T) {
	valid := []cron.Spec{each(), {Sets: each().Sets}}
	for field := range 5 {
		low, high := ends(field)
		for _, n := range []int{low, low + 1, high} {
			c := each()
			c.Any[field], c.Sets[field] = false, 1<<n
			valid = append(valid, c)
			c.Sets[field] = each().Sets[field] &^ (1 << n)
			valid = append(valid, c)
		}
		c := each()
		c.Any[field] = false
		valid = append(valid, c)
	}
	for _, c := range valid {
		if e := c.Check(); e != api.OK {
			t.Errorf("Check of %v: %d", c, e)
		}
		if c.Show() == "" {
			t.Errorf("Show of %v is empty", c)
		}
	}
	for _, c := range invalid() {
		if e := c.Check(); e != api.ErrRange {
			t.Errorf("Check of %v: %d", c, e)
		}
	}
}

// P10.1, P10.2, P10.3: no text, no minutes and ErrRange for a spec that is not valid.
func TestInvalid(t *testing.T) {
	for _, c := range invalid() {
		if s := c.Show(); s != "" {
			t.Errorf("Show of %v: %q", c, s)
		}
		for _, n := range []int{-1, 0, 1, 59, 60, 1440, 86399, last - 1, last} {
			if c.Match(n) {
				t.Errorf("Match of %v and %d", c, n)
			}
		}
		for _, n := range append(noMinutes(), 0, 1, last) {
			if m, ok := c.Next(n); m != 0 || ok {
				t.Errorf("Next of %v after %d: %d, %v", c, n, m, ok)
			}
		}
		for _, to := range []int{-1, 0, 1, 9999, last, last + 1} {
			if m, e := c.Between(-1, to); len(m) != 0 || e != api.ErrRange {
				t.Errorf("Between of %v up to %d: %v, %d", c, to, m, e)
			}
		}
	}
}

// P10.2: which minutes match the examples of the chapter, and some other specs.
func TestMatchKnown(t *testing.T) {
	for _, k := range []struct {
		text    string
		yes, no []int
	}{
		// 2000-01-01 is a Saturday, 2000-01-02 a Sunday, and 2000-01-03 a Monday.
		{"* * * * *", []int{0, 1, 59, 60, 86399, last}, nil},
		{"0 2 * * *", []int{120, 1560, minuteOf(2024, 2, 29, 2, 0), minuteOf(6083, 1, 23, 2, 0)}, []int{0, 119, 121, 180, 60, 1440}},
		{"7 2 23 1 *", []int{last, minuteOf(2000, 1, 23, 2, 7)}, []int{last - 1, last - 1440, last - 60, minuteOf(2000, 2, 23, 2, 7)}},
		{"30 12 * 2 *", []int{minuteOf(2000, 2, 1, 12, 30), minuteOf(2001, 2, 28, 12, 30)}, []int{minuteOf(2000, 1, 31, 12, 30), minuteOf(2000, 3, 1, 12, 30), minuteOf(2000, 2, 1, 12, 31), minuteOf(2000, 2, 1, 11, 30)}},
		{"0 0 1 * *", []int{0, 44640}, []int{1440, 2880, 12960}},
		{"0 0 * * 1", []int{2880, 12960, minuteOf(2000, 5, 1, 0, 0)}, []int{0, 1440, 44640}},
		{"0 0 * * 0", []int{1440, 11520}, []int{0, 2880}},
		{"0 0 * * 6", []int{0, 10080}, []int{1440, 8640}},
		// By the day alone, by the weekday alone, by both, and by neither of them.
		{"0 0 1 * 1", []int{0, 2880, 44640, minuteOf(2000, 5, 1, 0, 0)}, []int{1440, 4320, 1, 2881, 60}},
		{"0 0 1 * 0-6", []int{0, 1440, 2880, 4320}, []int{1}},
		{"0 0 1-31 * 1", []int{0, 1440, 2880, 4320}, []int{1}},
		{"0 0 1-31 * *", []int{0, 1440, 2880, 4320}, []int{1}},
		{"0 0 31 2 1", []int{minuteOf(2000, 2, 7, 0, 0)}, []int{2880, minuteOf(2000, 2, 8, 0, 0), minuteOf(2000, 1, 31, 0, 0)}},
	} {
		c := must(t, k.text)
		for _, n := range k.yes {
			if !c.Match(n) {
				t.Errorf("Match of %q and %v: false", k.text, dateOf(n))
			}
		}
		for _, n := range k.no {
			if c.Match(n) {
				t.Errorf("Match of %q and %v: true", k.text, dateOf(n))
			}
		}
	}
}

// P10.2: a day and a weekday that match, alone, together or not at all, where none, one or both fields are any.
func TestMatchDays(t *testing.T) {
	for _, day := range [][]int{nil, {3}, {4}, numbers(1, 31)} {
		for _, weekday := range [][]int{nil, {1}, {2}, numbers(0, 6)} {
			l := lists{2: day, 4: weekday}
			for n := 0; n < 400*1440; n += 720 {
				if got, want := l.spec().Match(n), l.matches(n); got != want {
					t.Fatalf("Match of %q and %v: %v", l.text(), dateOf(n), got)
				}
			}
		}
	}
}

// P10.2: what is no minute doesn't match.
func TestMatchNoMinute(t *testing.T) {
	for _, n := range noMinutes() {
		if each().Match(n) {
			t.Errorf("Match of %d", n)
		}
	}
	if !each().Match(0) || !each().Match(last) {
		t.Error("Match of the first and the last minute")
	}
}

// someMinutes returns minutes of all years, and such at which months and years end.
func someMinutes(r *rand.Rand) []int {
	some := []int{0, 1, 59, 60, 1439, 1440, 2880, 44639, 44640, 86399, 86400, 527039, 527040, last - 1440, last - 1, last}
	for range 20 {
		some = append(some, r.Intn(api.MaxMinute), minuteOf(2000+r.Intn(4083), 1+r.Intn(12), 1, 0, 0)-r.Intn(2), 1440*r.Intn(last/1440+1))
	}
	return some
}

// P10.2: minutes of all kinds match as an independent reckoning says.
func TestMatchModel(t *testing.T) {
	r := rand.New(rand.NewSource(101))
	for range 500 {
		l := someLists(r)
		c := l.spec()
		for _, n := range append(someMinutes(r), noMinutes()...) {
			if got, want := c.Match(n), l.matches(n); got != want {
				t.Fatalf("Match of %q and %d: %v", l.text(), n, got)
			}
		}
	}
}

// P10.2: Next of known specs.
func TestNextKnown(t *testing.T) {
	for _, k := range []struct {
		text        string
		after, want int
	}{
		{"* * * * *", math.MinInt, 0}, {"* * * * *", -2, 0}, {"* * * * *", -1, 0}, {"* * * * *", 0, 1}, {"* * * * *", last - 1, last},
		{"0 2 * * *", math.MinInt, 120}, {"0 2 * * *", -1, 120}, {"0 2 * * *", 0, 120}, {"0 2 * * *", 119, 120}, {"0 2 * * *", 120, 1560}, {"0 2 * * *", 121, 1560},
		{"0 0 1 * 1", -1, 0}, {"0 0 1 * 1", 0, 2880}, {"0 0 1 * 1", 2880, 12960}, {"0 0 1 * 1", minuteOf(2000, 1, 31, 0, 0), 44640}, {"0 0 1 * 1", minuteOf(2000, 4, 24, 0, 0), minuteOf(2000, 5, 1, 0, 0)},
		{"59 23 31 12 *", 0, 527039}, {"59 23 31 12 *", 527039, minuteOf(2001, 12, 31, 23, 59)},
		{"0 0 1 1 *", 0, 527040}, {"59 * * * *", 59, 119}, {"0 * * * *", 1439, 1440},
		{"59 23 29 2 *", 0, 86399}, {"59 23 29 2 *", 86399, minuteOf(2004, 2, 29, 23, 59)},
		{"0 0 29 2 *", minuteOf(2096, 2, 29, 0, 0), minuteOf(2104, 2, 29, 0, 0)}, {"0 0 29 2 *", minuteOf(2396, 2, 29, 0, 0), minuteOf(2400, 2, 29, 0, 0)},
		{"0 0 31 4,6,9,11,12 *", 0, minuteOf(2000, 12, 31, 0, 0)},
		{"7 2 23 1 *", last - 1, last}, {"7 2 23 1 *", minuteOf(6082, 1, 23, 2, 7), last}, {"7 2 23 1 *", minuteOf(6082, 1, 23, 2, 6), minuteOf(6082, 1, 23, 2, 7)},
		{"5,10 3,7 * * *", 185, 190}, {"5,10 3,7 * * *", 190, 425}, {"5,10 3,7 * * *", 430, 1625}, {"5,10 3,7 * * *", 239, 425}, {"5,10 3,7 * * *", 240, 425},
	} {
		if n, ok := must(t, k.text).Next(k.after); n != k.want || !ok {
			t.Errorf("Next of %q after %d: %d, %v instead of %d", k.text, k.after, n, ok, k.want)
		}
	}
}

// P10.2: Next where no minute matches, or none behind the given one.
func TestNextNone(t *testing.T) {
	for _, k := range []struct {
		text  string
		after []int
	}{
		{"* * * * *", []int{last, last + 1, 1 << 32, math.MaxInt - 1, math.MaxInt}},
		{"7 2 23 1 *", []int{last, last + 1, math.MaxInt}},
		{"8 2 23 1 *", []int{minuteOf(6082, 1, 23, 2, 8), last - 1, last}},
		{"0 3 * * *", []int{minuteOf(6083, 1, 22, 3, 0), last}},
		{"* * 24 1 *", []int{minuteOf(6082, 1, 24, 23, 59), last}},
		{"* * * 2-12 *", []int{minuteOf(6082, 12, 31, 23, 59), last - 1}},
		{"* * 30 2 *", []int{math.MinInt, -1, 0, 1, 86399, last - 1, last, math.MaxInt}},
		{"* * 31 2,4,6,9,11 *", []int{math.MinInt, -1, 0, 44640, last - 1, last, math.MaxInt}},
		{"* * 30,31 2 *", []int{-1, 0, last}},
		{"* * 29 2 *", []int{minuteOf(6080, 2, 29, 23, 59), last}},
	} {
		for _, n := range k.after {
			if m, ok := must(t, k.text).Next(n); m != 0 || ok {
				t.Errorf("Next of %q after %d: %d, %v", k.text, n, m, ok)
			}
		}
	}
}

// P10.2: Next agrees with Match, minute by minute, at the first minutes, at the last ones, and between them.
func TestNextMatch(t *testing.T) {
	r := rand.New(rand.NewSource(102))
	for i := range 300 {
		c := someLists(r).spec()
		from := []int{0, last - 2999, r.Intn(last - 3000), minuteOf(2000+r.Intn(4000), 1+r.Intn(12), 1, 0, 0)}[i%4]
		if from > 1500 {
			from -= 1500 * (i % 2)
		}
		want, found := c.Next(from + 2999)
		if found && want <= from+2999 {
			t.Fatalf("Next of %q after %d: %d", c.Show(), from+2999, want)
		}
		for n := from + 2999; n >= from; n-- {
			if got, ok := c.Next(n); got != want || ok != found {
				t.Fatalf("Next of %q after %d: %d, %v instead of %d", c.Show(), n, got, ok, want)
			}
			if c.Match(n) {
				want, found = n, true
			}
		}
	}
}

// P10.2: Next is as an independent reckoning says, over any distance.
func TestNextModel(t *testing.T) {
	r := rand.New(rand.NewSource(103))
	for range 300 {
		l := someLists(r)
		c := l.spec()
		for _, n := range []int{-1 - r.Intn(100), r.Intn(api.MaxMinute), last - r.Intn(100000), minuteOf(2000+r.Intn(4083), 1+r.Intn(12), 1, 0, 0) - r.Intn(2)} {
			want, found := l.next(n)
			if got, ok := c.Next(n); got != want || ok != found {
				t.Fatalf("Next of %q after %d: %d, %v instead of %d, %v", l.text(), n, got, ok, want, found)
			}
		}
	}
}

// P10.3: Between of known specs.
func TestBetweenKnown(t *testing.T) {
	for _, k := range []struct {
		text     string
		from, to int
		want     []int
	}{
		{"* * * * *", -1, 0, []int{0}},
		{"* * * * *", -1, 2, []int{0, 1, 2}},
		{"* * * * *", 0, 0, nil},
		{"* * * * *", 7, 7, nil},
		{"* * * * *", last, last, nil},
		{"* * * * *", last - 3, last, []int{last - 2, last - 1, last}},
		{"0 2 * * *", -1, 119, nil},
		{"0 2 * * *", -1, 120, []int{120}},
		{"0 2 * * *", 119, 120, []int{120}},
		{"0 2 * * *", 120, 1559, nil},
		{"0 2 * * *", 120, 1560, []int{1560}},
		{"0 2 * * *", -1, 5000, []int{120, 1560, 3000, 4440}},
		{"0 0 1 * 1", -1, 44640, []int{0, 2880, 12960, 23040, 33120, 43200, 44640}},
		{"0 0 29 2 *", -1, minuteOf(2013, 1, 1, 0, 0), []int{84960, minuteOf(2004, 2, 29, 0, 0), minuteOf(2008, 2, 29, 0, 0), minuteOf(2012, 2, 29, 0, 0)}},
		{"7 2 23 1 *", minuteOf(6082, 1, 23, 2, 7), last, []int{last}},
		{"7 2 23 1 *", minuteOf(6082, 1, 23, 2, 7), last - 1, nil},
		{"* * 30 2 *", -1, last, nil},
	} {
		got, e := must(t, k.text).Between(k.from, k.to)
		if !slices.Equal(got, k.want) || e != api.OK {
			t.Errorf("Between of %q, from %d to %d: %v, %d instead of %v", k.text, k.from, k.to, got, e, k.want)
		}
	}
}

// P10.3: ends that are no minutes, or in the wrong order.
func TestBetweenRange(t *testing.T) {
	for _, k := range [][2]int{
		{-2, 0}, {-2, -2}, {-2, -1}, {math.MinInt, 0}, {math.MinInt, math.MinInt}, {math.MinInt, math.MaxInt}, {-1440, 5},
		{-1, -1}, {-1, -2}, {0, -1}, {1, 0}, {5, 4}, {last, last - 1}, {last, 0},
		{last - 1, last + 1}, {last, last + 1}, {last + 1, last + 1}, {last + 1, last + 2}, {last + 1, last}, {-1, math.MaxInt}, {0, math.MaxInt}, {math.MaxInt, math.MaxInt}, {math.MaxInt, 0}, {5, 1 << 32}, {0, 1<<32 + 5},
	} {
		// The second spec matches no minute at all, so that there are never too many.
		for _, text := range []string{"* * * * *", "* * 30 2 *"} {
			if got, e := must(t, text).Between(k[0], k[1]); len(got) != 0 || e != api.ErrRange {
				t.Errorf("Between of %q, from %d to %d: %v, %d", text, k[0], k[1], got, e)
			}
		}
	}
}

// P10.3: 10000 minutes, and one more.
func TestBetweenMany(t *testing.T) {
	for _, k := range []struct {
		text     string
		from, to int
		many     bool
	}{
		{"* * * * *", -1, 9999, false}, {"* * * * *", -1, 10000, true}, {"* * * * *", 0, 10000, false}, {"* * * * *", 0, 10001, true},
		{"* * * * *", last - 10000, last, false}, {"* * * * *", last - 10001, last, true}, {"* * * * *", -1, last, true},
		{"0 * * * *", -1, 599999, false}, {"0 * * * *", -1, 600000, true}, {"0 * * * *", 0, 600000, false},
		{"0 0 1 1 *", -1, last, false}, {"0 0 1 * *", -1, last, true},
	} {
		got, e := must(t, k.text).Between(k.from, k.to)
		if k.many {
			if len(got) != 0 || e != api.ErrRange {
				t.Errorf("Between of %q, from %d to %d: %d minutes, %d", k.text, k.from, k.to, len(got), e)
			}
			continue
		}
		if e != api.OK || len(got) == 0 {
			t.Fatalf("Between of %q, from %d to %d: %d minutes, %d", k.text, k.from, k.to, len(got), e)
		}
		if k.text != "0 0 1 1 *" && len(got) != 10000 {
			t.Errorf("Between of %q, from %d to %d: %d minutes", k.text, k.from, k.to, len(got))
		}
	}
}

// P10.3: Between agrees with Match, minute by minute.
func TestBetweenMatch(t *testing.T) {
	r := rand.New(rand.NewSource(104))
	for i := range 600 {
		c := someLists(r).spec()
		length := []int{r.Intn(5), r.Intn(3000), 9990 + r.Intn(20), r.Intn(30000)}[i%4]
		from := []int{-1, r.Intn(last - length), last - length}[i%3]
		var want []int
		for n := from + 1; n <= from+length; n++ {
			if c.Match(n) {
				want = append(want, n)
			}
		}
		wanted := api.OK
		if len(want) > 10000 || from+length < 0 {
			want, wanted = nil, api.ErrRange
		}
		if got, e := c.Between(from, from+length); !slices.Equal(got, want) || e != wanted {
			t.Fatalf("Between of %q, from %d to %d: %d minutes, %d instead of %d, %d", c.Show(), from, from+length, len(got), e, len(want), wanted)
		}
	}
}

// P10.3: Between is as an independent reckoning says, over any distance.
func TestBetweenModel(t *testing.T) {
	r := rand.New(rand.NewSource(105))
	for range 40 {
		l := someLists(r)
		from := r.Intn(api.MaxMinute)
		to := from + r.Intn(api.MaxMinute-from)
		var want []int
		wanted := api.OK
		for n, ok := l.next(from); ok && n <= to; n, ok = l.next(n) {
			want = append(want, n)
			if len(want) > 10000 {
				want, wanted = nil, api.ErrRange
				break
			}
		}
		if got, e := l.spec().Between(from, to); !slices.Equal(got, want) || e != wanted {
			t.Fatalf("Between of %q, from %d to %d: %d minutes, %d instead of %d, %d", l.text(), from, to, len(got), e, len(want), wanted)
		}
	}
}

// P10.4: the spec stays as it is, and results are new memory, their spare capacity included.
func TestMemory(t *testing.T) {
	c := must(t, "*/7 1-5 1,31 * 1")
	same := c
	first, _ := c.Between(-1, 5000)
	again := slices.Clone(first)
	second, _ := c.Between(-1, 5000)
	for _, list := range [][]int{first, first[:cap(first)]} {
		for i := range list {
			list[i] = -7
		}
	}
	if !slices.Equal(second, again) {
		t.Error("two results share memory")
	}
	for i := range second[:cap(second)] {
		second[:cap(second)][i] = -8
	}
	if slices.Contains(first[:cap(first)], -8) {
		t.Error("two results share spare capacity")
	}
	c.Next(5)
	c.Match(5)
	c.Show()
	c.Check()
	if third, _ := c.Between(-1, 5000); c != same || !slices.Equal(third, again) {
		t.Error("a call has changed the spec or a later result")
	}
}

// P1, P10.1 to P10.3: any bits and any numbers.
func TestAnything(t *testing.T) {
	r := rand.New(rand.NewSource(106))
	for range 3000 {
		var c cron.Spec
		for field := range c.Sets {
			c.Sets[field] = []uint64{0, r.Uint64(), 1 << r.Intn(64), each().Sets[field], each().Sets[field], math.MaxUint64}[r.Intn(6)]
			c.Any[field] = r.Intn(3) == 0
		}
		valid := c.Check() == api.OK
		if valid != (c.Show() != "") {
			t.Fatalf("Check and Show of %v differ", c)
		}
		n := int(r.Uint64())
		if c.Match(n) && !valid {
			t.Fatalf("Match of %v and %d", c, n)
		}
		if m, ok := c.Next(n); ok && (!valid || m <= n || !c.Match(m)) {
			t.Fatalf("Next of %v after %d: %d", c, n, m)
		}
		if _, e := c.Between(n, int(r.Uint64())); e != api.ErrRange {
			t.Fatalf("Between of %v: %d", c, e)
		}
	}
}
