package segment_test

import (
	"math"
	"strings"
	"testing"

	"bywash/api"
	"bywash/disk"
	"bywash/segment"
)

const roomy = 1 << 20

func ok(t *testing.T, e api.Errno) {
	t.Helper()
	is(t, "error", e, api.OK)
}

func is[T comparable](t *testing.T, what string, got, want T) {
	t.Helper()
	if got != want {
		t.Fatalf("%s: %v instead of %v", what, got, want)
	}
}

type fileLook struct {
	bytes      string
	size, safe int
}

// diskLook is what can be seen of a disk.
type diskLook struct {
	files      [4]fileLook
	used, done int
	down       bool
}

func look(d *disk.Disk) diskLook {
	l := diskLook{used: d.Used(), done: d.Done(), down: d.Down()}
	for file := range l.files {
		l.files[file] = fileLook{content(d, file), d.Size(file), d.Safe(file)}
	}
	return l
}

// logLook is what can be seen of a log.
type logLook struct {
	generation, size int
	loose            bool
}

func lookLog(l *segment.Log) logLook { return logLook{l.Generation(), l.Size(), l.Loose()} }

// unchanged holds that f changes nothing that can be seen of d and l.
func unchanged(t *testing.T, what string, d *disk.Disk, l *segment.Log, f func()) {
	t.Helper()
	before, beforeLog := look(d), lookLog(l)
	f()
	is(t, what+": disk", look(d), before)
	is(t, what+": log", lookLog(l), beforeLog)
}

// laid returns a disk whose first files have these bytes, so many of which are safe.
func laid(t *testing.T, files [2]string, safe [2]int) *disk.Disk {
	t.Helper()
	d := disk.New(roomy)
	for file, s := range files {
		ok(t, d.Append(file, []byte(s[:safe[file]])))
		ok(t, d.Sync(file))
		ok(t, d.Append(file, []byte(s[safe[file]:])))
	}
	return d
}

// safely returns a disk whose first files have these bytes, all of them safe.
func safely(t *testing.T, first, second string) *disk.Disk {
	t.Helper()
	return laid(t, [2]string{first, second}, [2]int{len(first), len(second)})
}

// open opens the log of d, which must have this.
func open(t *testing.T, d *disk.Disk, generation int, found string) *segment.Log {
	t.Helper()
	l, f, e := segment.Open(d)
	ok(t, e)
	if l == nil {
		t.Fatal("no log")
	}
	is(t, "found", told(f), found)
	is(t, "Generation", l.Generation(), generation)
	is(t, "Loose", l.Loose(), false)
	return l
}

// has tells what a log with this checkpoint and these groups has.
func has(checkpoint string, groups ...[]string) string {
	return part{checkpoint: checkpoint, groups: groups}.text()
}

func group(records ...string) []string { return records }

// holds holds the files of d against these bytes, the first of which are safe.
func holds(t *testing.T, d *disk.Disk, first, second string, safe int) {
	t.Helper()
	is(t, "file 0", content(d, 0), first)
	is(t, "file 1", content(d, 1), second)
	is(t, "safe bytes", d.Safe(0)+d.Safe(1), safe)
}

// settled holds that d has nothing but this segment, in this file, all of it safe.
func settled(t *testing.T, d *disk.Disk, l *segment.Log, file int, s string) {
	t.Helper()
	files := [2]string{}
	files[file] = s
	holds(t, d, files[0], files[1], len(s))
	is(t, "Size", l.Size(), len(s))
	is(t, "Loose", l.Loose(), false)
}

// The example of the chapter.
func TestExample(t *testing.T) {
	d := disk.New(roomy)
	l := open(t, d, 1, has(""))
	ok(t, l.Commit([]byte("x"), []byte("y")))
	ok(t, l.Append([]byte("z")))
	d.Crash()
	open(t, d, 1, has("", group("x", "y")))
}

// P8.1: on an empty disk, a log begins in file 0, with generation 1 and an empty checkpoint.
func TestOpenEmpty(t *testing.T) {
	d := disk.New(roomy)
	l := open(t, d, 1, has(""))
	settled(t, d, l, 0, headBytes(1, ""))
	is(t, "head", content(d, 0)[:len(content(d, 0))-4], "\x01\x05\x01\x01\x01\x01\x00")
	is(t, "Done", d.Done(), 2)
	for range 3 {
		l = open(t, d, 1, has(""))
		settled(t, d, l, 0, headBytes(1, ""))
		is(t, "Done", d.Done(), 2)
	}
}

// sample is the bytes of a segment and what it has.
func sample(generation int, checkpoint string) (bytes, found string) {
	bytes = headBytes(generation, checkpoint) + groupBytes("a"+checkpoint) + groupBytes("", "\x00\xff", strings.Repeat("r", 300))
	return bytes, has(checkpoint, group("a"+checkpoint), group("", "\x00\xff", strings.Repeat("r", 300)))
}

// P8.1: the log is the only segment, in either file, whatever its generation is.
func TestOpenOne(t *testing.T) {
	for _, generation := range []int{1, 2, 255, 256, 1 << 40, math.MaxInt} {
		for _, checkpoint := range []string{"", "c", strings.Repeat("long", 100)} {
			s, found := sample(generation, checkpoint)
			d := safely(t, s, "")
			done := d.Done()
			settled(t, d, open(t, d, generation, found), 0, s)
			is(t, "Done", d.Done(), done)
			d = safely(t, "", s)
			done = d.Done()
			settled(t, d, open(t, d, generation, found), 1, s)
			is(t, "Done", d.Done(), done)
		}
	}
}

// P8.1: of two segments, the log is the one with the greater generation, or that of file 0; the other file is emptied.
func TestOpenBoth(t *testing.T) {
	for _, c := range []struct{ first, second, file int }{
		{1, 1, 0}, {1, 2, 1}, {2, 1, 0}, {255, 256, 1}, {256, 255, 0}, {9, 1000, 1}, {7, 7, 0},
		{math.MaxInt, math.MaxInt, 0}, {math.MaxInt, 1, 0}, {1, math.MaxInt, 1}, {math.MaxInt - 1, math.MaxInt, 1},
	} {
		var s, found [2]string
		s[0], found[0] = sample(c.first, "first")
		s[1], found[1] = sample(c.second, "second")
		d := safely(t, s[0], s[1])
		done := d.Done()
		settled(t, d, open(t, d, max(c.first, c.second), found[c.file]), c.file, s[c.file])
		is(t, "Done", d.Done(), done+1)
		open(t, d, max(c.first, c.second), found[c.file])
		is(t, "Done", d.Done(), done+1)
	}
}

// noHeads lists bytes that do not begin with a head.
func noHeads() []string {
	l := []string{
		"", "x", "\x00", "\x01", "\x1f", frameBytes(""), frameBytes("x"), frameBytes("\x01\x01"),
		groupBytes("a"), groupBytes(), "x" + headBytes(1, "c"), frameBytes("") + headBytes(1, "c"), groupBytes("a") + headBytes(1, "c"),
		frameBytes(headContents(1, "c") + "\x00"), frameBytes(headContents(1, "c") + "x"), frameBytes(headContents(1, "") + headContents(1, "")),
		frameBytes(intBytes(1) + intBytes(1)), frameBytes(intBytes(1) + textBytes("c")), frameBytes(intBytes(1) + intBytes(1) + intBytes(2) + "c"),
		frameBytes(intBytes(1) + intBytes(1) + intBytes(-1)), frameBytes("\x02\x01\x00" + intBytes(1) + textBytes("c")),
		frameBytes(intBytes(1) + "\x02\x01\x00" + textBytes("c")), frameBytes(intBytes(1) + intBytes(1) + "\x02\x01\x00c"),
		frameBytes(intBytes(1) + "\x08\xff\xff\xff\xff\xff\xff\xff\xff" + textBytes("c")),
	}
	for _, n := range []int{math.MinInt, -2, -1, 0, 2, 3, 257, math.MaxInt} {
		l = append(l, frameBytes(intBytes(n)+intBytes(1)+textBytes("c")))
	}
	for _, n := range []int{math.MinInt, -256, -2, -1, 0} {
		l = append(l, headBytes(n, "c"))
	}
	return append(l, broken(headBytes(1, "c"))...)
}

// broken lists changes of a frame: cut off everywhere, and with each byte changed.
func broken(s string) []string {
	var l []string
	for k := range len(s) {
		l = append(l, s[:k], s[:k]+string(s[k]^1)+s[k+1:], s[:k]+string(s[k]^0x80)+s[k+1:])
	}
	return l
}

// P8.1: a file whose first frame is no head has no segment, whatever follows, and is emptied.
func TestOpenNoHead(t *testing.T) {
	s, found := sample(3, "c")
	for _, x := range noHeads() {
		for _, x := range []string{x, x + groupBytes("a"), x + s} {
			if x == s {
				continue
			}
			d := safely(t, x, "")
			settled(t, d, open(t, d, 1, has("")), 0, headBytes(1, ""))
			d = safely(t, "", x)
			settled(t, d, open(t, d, 1, has("")), 0, headBytes(1, ""))
			d = safely(t, x, x)
			settled(t, d, open(t, d, 1, has("")), 0, headBytes(1, ""))
			d = safely(t, x, s)
			settled(t, d, open(t, d, 3, found), 1, s)
			d = safely(t, s, x)
			settled(t, d, open(t, d, 3, found), 0, s)
		}
	}
}

// noGroups lists bytes that do not begin with a group.
func noGroups() []string {
	l := []string{
		"", "x", "\x00", "\x01", "\x1f", frameBytes(""), frameBytes("x"), frameBytes("\x01\x02"), headBytes(1, "c"), headBytes(9, ""),
		"x" + groupBytes("a"), frameBytes(groupContents("a") + "\x00"), frameBytes(groupContents("a") + "x"), frameBytes(groupContents() + "\x00"),
		frameBytes(groupContents("a") + groupContents("a")), frameBytes("\x02\x02\x00" + intBytes(1) + textBytes("a")),
		frameBytes(intBytes(2) + "\x02\x01\x00" + textBytes("a")), frameBytes(intBytes(2) + "\x01\x00"), frameBytes(intBytes(2) + intBytes(1) + "\x02\x01\x00a"),
		frameBytes(intBytes(2) + intBytes(1) + intBytes(2) + "a"), frameBytes(intBytes(2) + intBytes(1) + intBytes(-1)),
		frameBytes(intBytes(2) + intBytes(2) + textBytes("a") + intBytes(2) + "b"), frameBytes(intBytes(2) + textBytes("a")),
	}
	for _, n := range []int{math.MinInt, -3, -2, -1, 0, 1, 3, 258, math.MaxInt} {
		l = append(l, frameBytes(intBytes(n)+intBytes(1)+textBytes("a")))
	}
	for _, n := range []int{math.MinInt, -256, -3, -2, -1, 0, 1, 3, 4, 5, 255, 256, 1 << 31, 1 << 40, math.MaxInt} {
		l = append(l, frameBytes(intBytes(2)+intBytes(n)+textBytes("a")+textBytes("b")))
		if n != 0 {
			l = append(l, frameBytes(intBytes(2)+intBytes(n)))
		}
	}
	return append(l, broken(groupBytes("a", "bc"))...)
}

// P8.1: a segment ends before the first frame that is no group; what is behind it is cut off, groups among it.
func TestOpenNoGroup(t *testing.T) {
	for _, x := range noGroups() {
		for _, groups := range [][][]string{nil, {{"one"}}, {{"one"}, {"two", ""}}} {
			s := headBytes(5, "c")
			for _, g := range groups {
				s += groupBytes(g...)
			}
			for _, rest := range []string{x, x + groupBytes("behind"), x + headBytes(6, "d") + groupBytes("behind")} {
				if rest == groupBytes("behind") {
					continue
				}
				d := safely(t, s+rest, "")
				settled(t, d, open(t, d, 5, has("c", groups...)), 0, s)
				d = safely(t, headBytes(4, "old"), s+rest)
				settled(t, d, open(t, d, 5, has("c", groups...)), 1, s)
				d = safely(t, s+rest, headBytes(4, "old")+groupBytes("a"))
				settled(t, d, open(t, d, 5, has("c", groups...)), 0, s)
			}
		}
	}
}

// P8.1: a group may have no records, and records and checkpoints any bytes, those of heads and groups among them.
func TestOpenStrange(t *testing.T) {
	odd := []string{"", "\x00", "\x00\xff\x80", headBytes(9, "c"), groupBytes("a"), frameBytes(""), strings.Repeat("\x02", 1000)}
	groups := [][]string{nil, odd, {""}, nil, make([]string, 300)}
	for _, checkpoint := range odd {
		s := headBytes(1, checkpoint)
		for _, g := range groups {
			s += groupBytes(g...)
		}
		d := safely(t, s, "")
		settled(t, d, open(t, d, 1, has(checkpoint, groups...)), 0, s)
	}
}

// P8.1: bytes that are not all safe are synced, cut off or replaced, with as few commands as the chapter says.
func TestOpenLoose(t *testing.T) {
	s, found := sample(3, "c")
	older, _ := sample(2, "old")
	for _, c := range []struct {
		files    [2]string
		file     int
		commands int
	}{
		{[2]string{s, ""}, 0, 1}, {[2]string{"", s}, 1, 1}, {[2]string{s, older}, 0, 2}, {[2]string{older, s}, 1, 2},
		{[2]string{s + "x", ""}, 0, 1}, {[2]string{"x", s + "x"}, 1, 2}, {[2]string{s, "x"}, 0, 2}, {[2]string{s, s}, 0, 2},
	} {
		size := len(c.files[c.file])
		for safe := range size {
			safes := [2]int{}
			safes[c.file] = safe
			d := laid(t, c.files, safes)
			done := d.Done()
			settled(t, d, open(t, d, 3, found), c.file, s)
			is(t, "Done", d.Done(), done+c.commands)
			d.Crash()
			settled(t, d, open(t, d, 3, found), c.file, s)
			is(t, "Done", d.Done(), done+c.commands)
		}
	}
	for _, c := range []struct {
		files    [2]string
		commands int
	}{{[2]string{"", ""}, 2}, {[2]string{"x", ""}, 3}, {[2]string{"", "x"}, 3}, {[2]string{"x", "x"}, 4}} {
		for _, safe := range [][2]int{{0, 0}, {len(c.files[0]), len(c.files[1])}} {
			d := laid(t, c.files, safe)
			done := d.Done()
			settled(t, d, open(t, d, 1, has("")), 0, headBytes(1, ""))
			is(t, "Done", d.Done(), done+c.commands)
		}
	}
}

// P8.2: Append puts the frame of a group behind the others, and does nothing without records.
func TestAppend(t *testing.T) {
	d := disk.New(roomy)
	l := open(t, d, 1, has(""))
	s := headBytes(1, "")
	safe := len(s)
	for _, none := range [][][]byte{nil, {}} {
		unchanged(t, "no records", d, l, func() {
			ok(t, l.Append(none...))
			ok(t, l.Append())
			ok(t, l.Commit(none...))
			ok(t, l.Sync())
		})
	}
	var groups [][]string
	for k, g := range samples() {
		done := d.Done()
		ok(t, l.Append(manyBytes(g)...))
		s += groupBytes(g...)
		groups = append(groups, g)
		is(t, "Done", d.Done(), done+1)
		is(t, "Size", l.Size(), len(s))
		is(t, "Loose", l.Loose(), true)
		is(t, "Generation", l.Generation(), 1)
		holds(t, d, s, "", safe)
		unchanged(t, "no records", d, l, func() { ok(t, l.Append()) })
		if k%3 == 2 {
			ok(t, l.Sync())
			safe = len(s)
			is(t, "Done", d.Done(), done+2)
			settled(t, d, l, 0, s)
			unchanged(t, "nothing to sync", d, l, func() {
				ok(t, l.Sync())
				ok(t, l.Commit())
			})
		}
	}
	open(t, d, 1, has("", groups...))
}

// samples lists groups of records.
func samples() [][]string {
	return [][]string{
		{""}, {"a"}, {"", ""}, {"x", "y"}, {"one", "", "three"}, {strings.Repeat("a", 255)}, {strings.Repeat("b", 256), "c"},
		{strings.Repeat("d", 70000)}, {headBytes(7, "c"), groupBytes("a")}, {"\x00\xff"}, make([]string, 255), make([]string, 256), {"last"},
	}
}

// P8.2: Commit without records syncs what was appended before, as Append and Sync do.
func TestCommitNothing(t *testing.T) {
	d := disk.New(roomy)
	l := open(t, d, 1, has(""))
	ok(t, l.Append([]byte("a")))
	done := d.Done()
	ok(t, l.Commit())
	is(t, "Done", d.Done(), done+1)
	settled(t, d, l, 0, headBytes(1, "")+groupBytes("a"))
}

// P8.2: Commit appends a group, and makes it safe, with all that was appended before.
func TestCommit(t *testing.T) {
	for _, first := range samples() {
		d := disk.New(roomy)
		l := open(t, d, 1, has(""))
		s := headBytes(1, "") + groupBytes(first...)
		ok(t, l.Commit(manyBytes(first)...))
		settled(t, d, l, 0, s)
		is(t, "Done", d.Done(), 4)
		ok(t, l.Append([]byte("x")))
		ok(t, l.Commit([]byte("y")))
		settled(t, d, l, 0, s+groupBytes("x")+groupBytes("y"))
		is(t, "Done", d.Done(), 7)
		d.Crash()
		open(t, d, 1, has("", first, group("x"), group("y")))
	}
}

// P8.2: Need tells how many bytes the frame of a group has.
func TestNeed(t *testing.T) {
	is(t, "Need", segment.Need(), 0)
	is(t, "Need", segment.Need([][]byte{}...), 0)
	is(t, "Need", segment.Need(nil), 11)
	is(t, "Need", segment.Need([]byte("a")), 13)
	for _, g := range samples() {
		is(t, "Need", segment.Need(manyBytes(g)...), len(groupBytes(g...)))
	}
	for n := range 600 {
		is(t, "Need", segment.Need(make([]byte, n)), len(groupBytes(strings.Repeat("\x00", n))))
		if n > 0 {
			is(t, "Need", segment.Need(make([][]byte, n)...), len(groupBytes(make([]string, n)...)))
		}
	}
}

// P8.2, P8.4: a log goes on in either file, from the generation and the size that it was opened with.
func TestGoOn(t *testing.T) {
	s, _ := sample(7, "c")
	for file := range 2 {
		files := [2]string{}
		files[file] = s + "x"
		d := safely(t, files[0], files[1])
		l, f, e := segment.Open(d)
		ok(t, e)
		is(t, "groups", len(f.Groups), 2)
		is(t, "Size", l.Size(), len(s))
		ok(t, l.Append([]byte("more")))
		is(t, "Size", l.Size(), len(s)+segment.Need([]byte("more")))
		is(t, "Generation", l.Generation(), 7)
		ok(t, l.Sync())
		settled(t, d, l, file, s+groupBytes("more"))
		ok(t, l.Compact([]byte("new")))
		is(t, "Generation", l.Generation(), 8)
		settled(t, d, l, 1-file, headBytes(8, "new"))
		ok(t, l.Commit([]byte("again")))
		settled(t, d, l, 1-file, headBytes(8, "new")+groupBytes("again"))
	}
}

// P8.3: Compact puts a checkpoint in the place of the groups, in the other file, each time with the next generation.
func TestCompact(t *testing.T) {
	d := disk.New(roomy)
	l := open(t, d, 1, has(""))
	for k := range 300 {
		checkpoint := strings.Repeat("c", k)
		if k%3 > 0 {
			ok(t, l.Append([]byte("lost"), []byte(checkpoint)))
		}
		if k%3 > 1 {
			ok(t, l.Sync())
		}
		done := d.Done()
		ok(t, l.Compact([]byte(checkpoint)))
		is(t, "Done", d.Done(), done+3)
		is(t, "Generation", l.Generation(), k+2)
		settled(t, d, l, 1-k%2, headBytes(k+2, checkpoint))
		unchanged(t, "nothing to sync", d, l, func() { ok(t, l.Sync()) })
		if k%5 == 0 {
			d.Crash()
			l = open(t, d, k+2, has(checkpoint))
			is(t, "Size", l.Size(), len(headBytes(k+2, checkpoint)))
		}
	}
}

// P8.3, P8.5: there is no generation that is greater by 1 than the greatest one, and still the new checkpoint is found, or the previous one.
func TestCompactGreatest(t *testing.T) {
	for file := range 2 {
		for n := range 4 {
			for _, keep := range [][]int{nil, {5, 5}, {100, 100}} {
				files := [2]string{}
				files[file] = headBytes(math.MaxInt-1, "old") + groupBytes("a")
				d := safely(t, files[1], files[0])
				l := open(t, d, math.MaxInt-1, has("old", group("a")))
				ok(t, l.Compact([]byte("greatest")))
				is(t, "Generation", l.Generation(), math.MaxInt)
				ok(t, l.Commit([]byte("b")))
				d.Arm(n)
				e := l.Compact([]byte("new"))
				is(t, "error", e == api.OK, n == 3)
				d.Crash(keep...)
				_, f, e := segment.Open(d)
				ok(t, e)
				if told(f) != has("new") && (n == 3 || told(f) != has("greatest", group("b"))) {
					t.Fatalf("found %s", told(f))
				}
			}
		}
	}
}
