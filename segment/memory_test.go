package segment_test

import (
	"slices"
	"testing"

	"bywash/api"
	"bywash/disk"
	"bywash/segment"
)

const spare = "SPARE CAPACITY THAT NOBODY MAY WRITE TO"

// scribble overwrites l and its spare capacity.
func scribble[T any](l []T, with T) {
	l = l[:cap(l)]
	for k := range l {
		l[k] = with
	}
}

// padded returns l with spare capacity that is filled, so that any write to it is seen.
func padded[T any](l []T, with T) []T {
	c := slices.Repeat([]T{with}, 2*len(l)+9)
	copy(c, l)
	return c[:len(l)]
}

func paddedRecords(g []string) [][]byte {
	l := padded(manyBytes(g), []byte(spare))
	for k, b := range l {
		l[k] = padded(b, '#')
	}
	return l
}

// whole tells all bytes of l, with all spare capacity laid open.
func whole(l [][]byte) string {
	s := ""
	for _, b := range l[:cap(l)] {
		s += textBytes(string(b[:cap(b)]))
	}
	return s
}

// P8.5: records and checkpoints stay as they are, and what becomes of them later does not matter.
func TestArguments(t *testing.T) {
	for _, g := range samples() {
		d := disk.New(roomy)
		l := open(t, d, 1, has(""))
		s := headBytes(1, "")
		for _, f := range []func(records [][]byte){
			func(records [][]byte) { ok(t, l.Append(records...)) },
			func(records [][]byte) { ok(t, l.Commit(records...)) },
		} {
			records := paddedRecords(g)
			before := whole(records)
			f(records)
			is(t, "Need", segment.Need(records...), len(groupBytes(g...)))
			is(t, "records", whole(records), before)
			for _, r := range records {
				scribble(r, '!')
			}
			scribble(records, nil)
			s += groupBytes(g...)
			is(t, "file 0", content(d, 0), s)
		}
		checkpoint := padded([]byte(g[0]), '#')
		before := string(checkpoint[:cap(checkpoint)])
		ok(t, l.Compact(checkpoint))
		is(t, "checkpoint", string(checkpoint[:cap(checkpoint)]), before)
		scribble(checkpoint, '!')
		settled(t, d, l, 1, headBytes(2, g[0]))
		open(t, d, 2, has(g[0]))
	}
}

// P8.5: records and checkpoints of calls that are refused stay as they are, too.
func TestArgumentsRefused(t *testing.T) {
	for _, g := range samples() {
		d := disk.New(roomy)
		l := open(t, d, 1, has(""))
		records, checkpoints := paddedRecords(g), paddedRecords(g[:1])
		before, beforeCheckpoints := whole(records), whole(checkpoints)
		refused := func(want api.Errno) {
			is(t, "Append", l.Append(records...), want)
			is(t, "Commit", l.Commit(records...), want)
			is(t, "Compact", l.Compact(checkpoints[0]), want)
			is(t, "records", whole(records), before)
			is(t, "checkpoint", whole(checkpoints), beforeCheckpoints)
		}
		d.Limit(0)
		refused(api.ErrFull)
		d.Limit(roomy)
		d.Arm(0)
		refused(api.ErrDown)
	}
}

// P8.5: what was found is new memory: no two byte strings share any, nor do two groups, nor do they with the log or the disk.
func TestResults(t *testing.T) {
	groups := [][]string{{"one", "", "two"}, {"three"}, nil, {"four", "five", "six", "seven", "eight"}}
	s := headBytes(1, "checkpoint")
	for _, g := range groups {
		s += groupBytes(g...)
	}
	want := has("checkpoint", groups...)
	d := safely(t, s, "")
	all := func(f segment.Found) [][]byte {
		l := [][]byte{f.Checkpoint}
		for _, g := range f.Groups {
			l = append(l, g...)
		}
		return l
	}
	_, clean, e := segment.Open(d)
	ok(t, e)
	for k := range all(clean) {
		l, f, e := segment.Open(d)
		ok(t, e)
		scribble(all(f)[k], '!')
		_ = append(all(f)[k], spare...)
		for n, b := range all(f) {
			is(t, "another byte string", n == k || string(b) == string(all(clean)[n]), true)
		}
		for n := range f.Groups {
			_ = append(f.Groups[n], []byte(spare))
			scribble(f.Groups[n], []byte("!"))
			for m := n + 1; m < len(f.Groups); m++ {
				is(t, "another group", slices.Contains(texts(f.Groups[m]), "!"), false)
			}
		}
		scribble(f.Groups, nil)
		is(t, "another result", told(clean), want)
		settled(t, d, l, 0, s)
		open(t, d, 1, want)
	}
}

// Two logs of two disks have nothing in common.
func TestTwo(t *testing.T) {
	first, second := disk.New(roomy), disk.New(roomy)
	l, m := open(t, first, 1, has("")), open(t, second, 1, has(""))
	ok(t, l.Append([]byte("a")))
	is(t, "Loose", m.Loose(), false)
	ok(t, m.Compact([]byte("c")))
	is(t, "Generation", l.Generation(), 1)
	ok(t, l.Sync())
	settled(t, first, l, 0, headBytes(1, "")+groupBytes("a"))
	settled(t, second, m, 1, headBytes(2, "c"))
}

// A log may be opened once more without any effect on the first one.
func TestOnceMore(t *testing.T) {
	d := disk.New(roomy)
	l := open(t, d, 1, has(""))
	ok(t, l.Commit([]byte("a")))
	unchanged(t, "opened once more", d, l, func() { open(t, d, 1, has("", group("a"))) })
	ok(t, l.Commit([]byte("b")))
	settled(t, d, l, 0, headBytes(1, "")+groupBytes("a")+groupBytes("b"))
}
