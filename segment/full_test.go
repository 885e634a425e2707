package segment_test

import (
	"testing"

	"bywash/api"
	"bywash/disk"
	"bywash/segment"
)

// P8.2: a group that has just room is appended, and one that has one byte too many is refused, and changes nothing.
func TestFullGroup(t *testing.T) {
	calls := []struct {
		name string
		run  func(l *segment.Log, records ...[]byte) api.Errno
	}{{"Append", (*segment.Log).Append}, {"Commit", (*segment.Log).Commit}}
	for _, g := range samples() {
		for _, call := range calls {
			for _, before := range [][]string{nil, {"before"}} {
				d := disk.New(roomy)
				l := open(t, d, 1, has(""))
				ok(t, l.Append(manyBytes(before)...))
				records, s := manyBytes(g), content(d, 0)
				d.Limit(len(s) + segment.Need(records...) - 1)
				for range 3 {
					unchanged(t, call.name, d, l, func() { is(t, "error", call.run(l, records...), api.ErrFull) })
				}
				d.Arm(0)
				unchanged(t, call.name, d, l, func() { is(t, "error", call.run(l, records...), api.ErrFull) })
				d.Arm(-1)
				unchanged(t, "no records", d, l, func() { ok(t, l.Append()) })
				d.Limit(len(s) + segment.Need(records...))
				ok(t, call.run(l, records...))
				is(t, "file 0", content(d, 0), s+groupBytes(g...))
				is(t, "Size", l.Size(), d.Used())
				is(t, "Loose", l.Loose(), call.name == "Append")
				unchanged(t, "full", d, l, func() { is(t, "error", l.Append(nil), api.ErrFull) })
				ok(t, l.Sync())
				settled(t, d, l, 0, s+groupBytes(g...))
			}
		}
	}
}

// P8.2: room that other files take is none.
func TestFullOthers(t *testing.T) {
	d := disk.New(100)
	ok(t, d.Append(2, make([]byte, 40)))
	ok(t, d.Append(3, make([]byte, 60-len(headBytes(1, ""))-len(groupBytes("a")))))
	l := open(t, d, 1, has(""))
	unchanged(t, "full", d, l, func() { is(t, "error", l.Commit([]byte("ab")), api.ErrFull) })
	ok(t, l.Commit([]byte("a")))
	is(t, "Used", d.Used(), 100)
}

// P8.3: a head needs room beside the log that it replaces. One that just has it is written, and one that has one byte too many
// is refused, and changes nothing.
func TestFullHead(t *testing.T) {
	for _, checkpoint := range []string{"", "c", "a longer checkpoint"} {
		for compacted := range 2 {
			for _, loose := range []bool{false, true} {
				d := disk.New(roomy)
				l := open(t, d, 1, has(""))
				for k := range compacted {
					ok(t, l.Compact([]byte{byte(k)}))
				}
				ok(t, l.Commit([]byte("a")))
				if loose {
					ok(t, l.Append([]byte("b")))
				}
				head := headBytes(2+compacted, checkpoint)
				d.Limit(d.Used() + len(head) - 1)
				for _, n := range []int{-1, 0, 1} {
					d.Arm(n)
					unchanged(t, "full", d, l, func() { is(t, "error", l.Compact([]byte(checkpoint)), api.ErrFull) })
				}
				d.Arm(-1)
				d.Limit(d.Used() + len(head))
				ok(t, l.Compact([]byte(checkpoint)))
				is(t, "Generation", l.Generation(), 2+compacted)
				settled(t, d, l, 1-compacted, head)
				ok(t, l.Commit([]byte("c")))
				d.Crash()
				open(t, d, 2+compacted, has(checkpoint, group("c")))
			}
		}
	}
}

// P8.3: a log whose head was refused goes on as it was.
func TestFullHeadGoOn(t *testing.T) {
	d := disk.New(100)
	l := open(t, d, 1, has(""))
	ok(t, l.Commit([]byte("a")))
	ok(t, l.Append([]byte("b")))
	is(t, "error", l.Compact(make([]byte, 100)), api.ErrFull)
	ok(t, l.Commit([]byte("c")))
	is(t, "error", l.Compact(make([]byte, 100)), api.ErrFull)
	d.Crash()
	l = open(t, d, 1, has("", group("a"), group("b"), group("c")))
	ok(t, l.Compact([]byte("d")))
	settled(t, d, l, 1, headBytes(2, "d"))
}

// P8.1: the first head of a log needs room, which bytes that are no segment do not take, but other files do.
func TestFullOpen(t *testing.T) {
	size := len(headBytes(1, ""))
	for _, files := range [][2]string{{"", ""}, {"x", ""}, {"", "x"}, {"x", "x"}} {
		d := safely(t, files[0], files[1])
		ok(t, d.Append(2, make([]byte, 30)))
		ok(t, d.Append(3, make([]byte, 20)))
		d.Limit(50 + size - 1)
		for range 3 {
			l, f, e := segment.Open(d)
			is(t, "error", e, api.ErrFull)
			is(t, "no log", l == nil, true)
			is(t, "found", told(f), has(""))
			holds(t, d, "", "", 0)
		}
		d.Limit(50 + size)
		settled(t, d, open(t, d, 1, has("")), 0, headBytes(1, ""))
	}
}

// P8.1: a log that is there needs no room to be opened.
func TestFullOpenAgain(t *testing.T) {
	s, found := sample(3, "c")
	for _, files := range [][2]string{{s, ""}, {s + "x", "x"}, {s, headBytes(2, "old")}} {
		d := laid(t, files, [2]int{0, 0})
		d.Limit(0)
		l := open(t, d, 3, found)
		settled(t, d, l, 0, s)
		unchanged(t, "full", d, l, func() {
			is(t, "error", l.Append(nil), api.ErrFull)
			is(t, "error", l.Compact(nil), api.ErrFull)
			ok(t, l.Sync())
		})
	}
}
