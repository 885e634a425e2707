package disk_test

import (
	"bytes"
	"math"
	"slices"
	"strings"
	"testing"

	"bywash/api"
	"bywash/disk"
)

const most = 1 << 30

// numbers lists files that are there, and some that are not.
func numbers() []int { return []int{math.MinInt, -2, -1, 0, 1, 2, 3, 4, 5, math.MaxInt} }

// wrong lists files that are not there.
func wrong() []int { return []int{math.MinInt, -1, 4, math.MaxInt} }

// made returns a disk of 100 bytes whose file i has the bytes that safe[i] and loose[i] list, those of safe[i] being safe.
func made(t *testing.T, safe, loose [4]string) *disk.Disk {
	t.Helper()
	d := disk.New(100)
	for i := range 4 {
		ok(t, d.Append(i, []byte(safe[i])))
		ok(t, d.Sync(i))
		ok(t, d.Append(i, []byte(loose[i])))
	}
	return d
}

// some returns a disk of 100 bytes, 17 of which are used, and of which each file has another number of safe ones.
func some(t *testing.T) *disk.Disk {
	return made(t, [4]string{"abc", "", "x", ""}, [4]string{"defg", "hijkl", "", "mnop"})
}

func ok(t *testing.T, e api.Errno) {
	t.Helper()
	is(t, "error", e, api.OK)
}

func is[T comparable](t *testing.T, what string, got, want T) {
	t.Helper()
	if got != want {
		t.Fatalf("%s: %v instead of %v", what, got, want)
	}
}

// read holds a file of a disk that is not down against these bytes, the first of which are safe.
func read(t *testing.T, d *disk.Disk, file int, want string, safe int) {
	t.Helper()
	b, e := d.Read(file)
	ok(t, e)
	is(t, "Read", string(b), want)
	is(t, "Size", d.Size(file), len(want))
	is(t, "Safe", d.Safe(file), safe)
}

// seen is what can be seen of a disk, by file where it is by file.
type seen struct {
	bytes                string
	e                    api.Errno
	size, safe           int
	used, capacity, done int
	down                 bool
}

func look(d *disk.Disk) []seen {
	var l []seen
	for _, i := range numbers() {
		b, e := d.Read(i)
		l = append(l, seen{string(b), e, d.Size(i), d.Safe(i), d.Used(), d.Capacity(), d.Done(), d.Down()})
	}
	return l
}

// unchanged holds that f changes nothing that can be seen of d.
func unchanged(t *testing.T, what string, d *disk.Disk, f func()) {
	t.Helper()
	before := look(d)
	f()
	if !slices.Equal(look(d), before) {
		t.Fatalf("%s: changed %v to %v", what, before, look(d))
	}
}

// P6.1: capacities from 0 to 2^30 are those of a disk, whose files are empty at first.
func TestNew(t *testing.T) {
	for _, n := range []int{math.MinInt, -most, -2, -1, most + 1, 2 * most, 1 << 32, 1<<32 + 5, math.MaxInt} {
		if disk.New(n) != nil {
			t.Errorf("New(%d): a disk", n)
		}
	}
	for _, n := range []int{0, 1, 2, 100, most - 1, most} {
		d := disk.New(n)
		if d == nil {
			t.Fatalf("New(%d): no disk", n)
		}
		for i := range 4 {
			read(t, d, i, "", 0)
		}
		is(t, "Used", d.Used(), 0)
		is(t, "Capacity", d.Capacity(), n)
		is(t, "Done", d.Done(), 0)
		is(t, "Down", d.Down(), false)
	}
	d := disk.New(10)
	ok(t, disk.New(10).Append(0, []byte("abc")))
	read(t, d, 0, "", 0)
}

// The example of the chapter.
func TestExample(t *testing.T) {
	d := disk.New(100)
	ok(t, d.Append(0, []byte("abc")))
	ok(t, d.Sync(0))
	ok(t, d.Append(0, []byte("def")))
	read(t, d, 0, "abcdef", 3)
	d.Crash(2)
	read(t, d, 0, "abcde", 5)
}

// P6.1: Append puts bytes behind those of its file, and is a command even with none.
func TestAppend(t *testing.T) {
	d := disk.New(1000)
	for i := range 4 {
		ok(t, d.Append(i, nil))
		ok(t, d.Append(i, []byte{}))
		read(t, d, i, "", 0)
	}
	is(t, "Done", d.Done(), 8)
	every := make([]byte, 256)
	for i := range every {
		every[i] = byte(i)
	}
	ok(t, d.Append(3, every))
	ok(t, d.Append(0, []byte("a")))
	ok(t, d.Append(3, []byte("bc")))
	ok(t, d.Append(0, []byte("d")))
	read(t, d, 0, "ad", 0)
	read(t, d, 1, "", 0)
	read(t, d, 2, "", 0)
	read(t, d, 3, string(every)+"bc", 0)
	is(t, "Used", d.Used(), 260)
	is(t, "Done", d.Done(), 12)
	ok(t, d.Sync(3))
	ok(t, d.Append(3, []byte("e")))
	read(t, d, 3, string(every)+"bce", 258)
}

// P6.1: the bytes of all files together may be as many as the capacity, and no more.
func TestFull(t *testing.T) {
	d := disk.New(10)
	full := func(file int, s string) {
		t.Helper()
		unchanged(t, "full", d, func() { is(t, "Append", d.Append(file, []byte(s)), api.ErrFull) })
	}
	full(0, "01234567890")
	ok(t, d.Append(0, []byte("0123")))
	full(1, "4567890")
	ok(t, d.Append(1, []byte("456")))
	ok(t, d.Sync(1))
	full(0, "7890")
	full(3, "7890")
	ok(t, d.Append(3, []byte("789")))
	is(t, "Used", d.Used(), 10)
	for i := range 4 {
		ok(t, d.Append(i, nil))
		full(i, "x")
	}
	ok(t, d.Cut(0, 3))
	full(2, "xy")
	ok(t, d.Append(2, []byte("x")))
	full(2, "y")
	d.Crash(0, 0, 1)
	read(t, d, 0, "012", 3)
	read(t, d, 1, "456", 3)
	read(t, d, 2, "x", 1)
	is(t, "Used", d.Used(), 7)
	full(3, "abcd")
	ok(t, d.Append(3, []byte("abc")))

	none := disk.New(0)
	ok(t, none.Append(0, nil))
	is(t, "Append", none.Append(0, []byte("a")), api.ErrFull)
	is(t, "Used", none.Used(), 0)

	big := disk.New(1 << 20)
	ok(t, big.Append(1, make([]byte, 1<<20-1)))
	is(t, "Append", big.Append(2, []byte("ab")), api.ErrFull)
	ok(t, big.Append(2, []byte("a")))
	is(t, "Append", big.Append(1, []byte("a")), api.ErrFull)
}

// P6.1: all bytes of the file, and of no other one, are safe after Sync.
func TestSync(t *testing.T) {
	d := some(t)
	done := d.Done()
	ok(t, d.Sync(0))
	read(t, d, 0, "abcdefg", 7)
	read(t, d, 1, "hijkl", 0)
	ok(t, d.Sync(3))
	ok(t, d.Sync(3))
	read(t, d, 3, "mnop", 4)
	read(t, d, 2, "x", 1)
	is(t, "Done", d.Done(), done+3)
	d.Crash()
	read(t, d, 0, "abcdefg", 7)
	read(t, d, 1, "", 0)
	read(t, d, 2, "x", 1)
	read(t, d, 3, "mnop", 4)
	empty := disk.New(0)
	ok(t, empty.Sync(2))
	is(t, "Done", empty.Done(), 1)
}

// P6.1: Cut leaves the first bytes of the file, below and above the safe ones, and all of them are safe then.
func TestCut(t *testing.T) {
	for n := 0; n <= 7; n++ {
		d := some(t)
		done := d.Done()
		ok(t, d.Cut(0, n))
		read(t, d, 0, "abcdefg"[:n], n)
		read(t, d, 1, "hijkl", 0)
		read(t, d, 2, "x", 1)
		read(t, d, 3, "mnop", 0)
		is(t, "Used", d.Used(), 10+n)
		is(t, "Done", d.Done(), done+1)
		ok(t, d.Append(0, []byte("++")))
		read(t, d, 0, "abcdefg"[:n]+"++", n)
		d.Crash(1)
		read(t, d, 0, "abcdefg"[:n]+"+", n+1)
	}
	d := some(t)
	for _, n := range []int{math.MinInt, -most, -1, 8, 9, 100, most, math.MaxInt} {
		unchanged(t, "Cut", d, func() { is(t, "Cut", d.Cut(0, n), api.ErrRange) })
	}
	for i := range 4 {
		unchanged(t, "Cut", d, func() { is(t, "Cut", d.Cut(i, d.Size(i)+1), api.ErrRange) })
		ok(t, d.Cut(i, d.Size(i)))
		is(t, "Safe", d.Safe(i), d.Size(i))
		ok(t, d.Cut(i, 0))
		ok(t, d.Cut(i, 0))
		read(t, d, i, "", 0)
		is(t, "Cut", d.Cut(i, 1), api.ErrRange)
		is(t, "Cut", d.Cut(i, -1), api.ErrRange)
	}
	is(t, "Used", d.Used(), 0)
}

// P6.1, P6.2: the files 0 to 3 are there, and no other ones.
func TestFiles(t *testing.T) {
	d := some(t)
	for _, i := range wrong() {
		unchanged(t, "no file", d, func() {
			is(t, "Append", d.Append(i, []byte("a")), api.ErrRange)
			is(t, "Append", d.Append(i, nil), api.ErrRange)
			is(t, "Append", d.Append(i, make([]byte, 101)), api.ErrRange)
			is(t, "Sync", d.Sync(i), api.ErrRange)
			is(t, "Cut", d.Cut(i, 0), api.ErrRange)
			is(t, "Cut", d.Cut(i, -1), api.ErrRange)
			b, e := d.Read(i)
			is(t, "Read", e, api.ErrRange)
			is(t, "bytes of Read", len(b), 0)
			is(t, "Size", d.Size(i), 0)
			is(t, "Safe", d.Safe(i), 0)
		})
	}
}

// P6.2: Read, and what counts bytes, tell of each file by itself, and are no commands.
func TestRead(t *testing.T) {
	d := some(t)
	is(t, "Done", d.Done(), 12)
	for range 2 {
		read(t, d, 0, "abcdefg", 3)
		read(t, d, 1, "hijkl", 0)
		read(t, d, 2, "x", 1)
		read(t, d, 3, "mnop", 0)
		is(t, "Used", d.Used(), 17)
	}
	is(t, "Done", d.Done(), 12)
}

// P6.2: Limit changes the capacity, even to less than there is, and does nothing for a capacity that no disk has.
func TestLimit(t *testing.T) {
	d := some(t)
	for _, n := range []int{math.MinInt, -most, -1, most + 1, 1 << 32, math.MaxInt} {
		unchanged(t, "Limit", d, func() { d.Limit(n) })
	}
	for _, n := range []int{0, 1, 16, 17, 18, most, 5} {
		done := d.Done()
		d.Limit(n)
		is(t, "Capacity", d.Capacity(), n)
		is(t, "Used", d.Used(), 17)
		is(t, "Done", d.Done(), done)
		read(t, d, 0, "abcdefg", 3)
		read(t, d, 3, "mnop", 0)
	}
	unchanged(t, "full", d, func() {
		is(t, "Append", d.Append(0, []byte("a")), api.ErrFull)
		is(t, "Append", d.Append(0, nil), api.ErrFull)
	})
	ok(t, d.Sync(0))
	ok(t, d.Cut(1, 0))
	is(t, "Append", d.Append(0, nil), api.ErrFull)
	ok(t, d.Cut(0, 0))
	is(t, "Used", d.Used(), 5)
	ok(t, d.Append(0, nil))
	is(t, "Append", d.Append(0, []byte("a")), api.ErrFull)
	d.Limit(6)
	is(t, "Append", d.Append(0, []byte("ab")), api.ErrFull)
	ok(t, d.Append(0, []byte("a")))
	d.Limit(0)
	d.Crash()
	is(t, "Capacity", d.Capacity(), 0)
	is(t, "Used", d.Used(), 1)
}

// P6.1: ErrDown precedes ErrRange, and that precedes ErrFull.
func TestOrder(t *testing.T) {
	d := some(t)
	d.Limit(0)
	is(t, "Append", d.Append(4, []byte("a")), api.ErrRange)
	is(t, "Append", d.Append(0, []byte("a")), api.ErrFull)
	d.Arm(0)
	is(t, "Append", d.Append(4, []byte("a")), api.ErrRange)
	is(t, "Append", d.Append(0, []byte("a")), api.ErrFull)
	is(t, "Sync", d.Sync(-1), api.ErrRange)
	is(t, "Cut", d.Cut(0, 8), api.ErrRange)
	is(t, "Down", d.Down(), false)
	is(t, "Sync", d.Sync(0), api.ErrDown)
	is(t, "Append", d.Append(4, []byte("a")), api.ErrDown)
	is(t, "Append", d.Append(0, []byte("a")), api.ErrDown)
	is(t, "Sync", d.Sync(-1), api.ErrDown)
	is(t, "Cut", d.Cut(0, 8), api.ErrDown)
	is(t, "Cut", d.Cut(4, 0), api.ErrDown)
	_, e := d.Read(4)
	is(t, "Read", e, api.ErrDown)
}

// act is a command for the file 0 of some, how many bytes and safe ones that has once it is executed,
// and the bytes that it has if the power goes instead.
type act struct {
	name       string
	run        func(d *disk.Disk) api.Errno
	size, safe int
	downBytes  string
}

func acts() []act {
	return []act{
		{"Append", func(d *disk.Disk) api.Errno { return d.Append(0, []byte("12")) }, 9, 3, "abcdefg12"},
		{"Append of nothing", func(d *disk.Disk) api.Errno { return d.Append(0, nil) }, 7, 3, "abcdefg"},
		{"Sync", func(d *disk.Disk) api.Errno { return d.Sync(0) }, 7, 7, "abcdefg"},
		{"Cut below", func(d *disk.Disk) api.Errno { return d.Cut(0, 1) }, 1, 1, "abcdefg"},
		{"Cut above", func(d *disk.Disk) api.Errno { return d.Cut(0, 5) }, 5, 5, "abcdefg"},
	}
}

// filler is a command for any other file than 0 of some, of another kind for each i up to 2.
func filler(d *disk.Disk, i int) api.Errno {
	switch i {
	case 0:
		return d.Sync(2)
	case 1:
		return d.Append(3, []byte("q"))
	}
	return d.Cut(1, 2)
}

// P6.3: the power goes at the command that follows as many as Arm says, whichever it is; of it, the bytes of an Append are left.
func TestArm(t *testing.T) {
	for _, a := range acts() {
		for n := range 4 {
			d := some(t)
			d.Arm(n)
			is(t, "Done", d.Done(), 12)
			for i := range n {
				ok(t, filler(d, i))
				if i == 0 {
					d.Arm(n - 1)
				}
			}
			done, others := d.Done(), [3]int{d.Size(1), d.Size(2), d.Size(3)}
			if e := a.run(d); e != api.ErrDown {
				t.Fatalf("%s, armed with %d: %d", a.name, n, e)
			}
			is(t, "Down", d.Down(), true)
			is(t, a.name+", Done", d.Done(), done)
			is(t, a.name+", Size", d.Size(0), len(a.downBytes))
			is(t, a.name+", Safe", d.Safe(0), 3)
			is(t, "others", [3]int{d.Size(1), d.Size(2), d.Size(3)}, others)
			d.Crash(100)
			read(t, d, 0, a.downBytes, len(a.downBytes))
			for range 5 {
				ok(t, d.Sync(0))
			}
			is(t, "Done", d.Done(), done+5)
		}
	}
}

// P6.3: as many commands as Arm says are executed as ever, of each kind.
func TestArmed(t *testing.T) {
	for _, a := range acts() {
		for _, n := range []int{1, 2, 7} {
			d := some(t)
			d.Arm(n)
			ok(t, a.run(d))
			is(t, a.name+", Size", d.Size(0), a.size)
			is(t, a.name+", Safe", d.Safe(0), a.safe)
			is(t, a.name+", Done", d.Done(), 13)
			for range n - 1 {
				ok(t, d.Append(2, nil))
			}
			is(t, "Down", d.Down(), false)
			is(t, "Append", d.Append(2, nil), api.ErrDown)
			is(t, "Down", d.Down(), true)
		}
	}
}

// P6.3: with a negative number, a disk is no longer armed; with another one, only the last one counts.
func TestArmAgain(t *testing.T) {
	for _, n := range []int{-1, -2, math.MinInt, math.MaxInt} {
		for _, before := range []int{-1, 0, 3} {
			d := some(t)
			d.Arm(before)
			d.Arm(n)
			for range 10 {
				ok(t, d.Append(0, []byte("a")))
				ok(t, d.Sync(0))
				ok(t, d.Cut(0, 0))
			}
			is(t, "Down", d.Down(), false)
			is(t, "Done", d.Done(), 42)
		}
	}
	d := some(t)
	d.Arm(0)
	d.Arm(2)
	ok(t, d.Sync(0))
	d.Arm(1)
	ok(t, d.Sync(0))
	is(t, "Sync", d.Sync(0), api.ErrDown)
}

// P6.3: a call that has another error is no command, and neither is one that only looks, or changes no file.
func TestArmOthers(t *testing.T) {
	d := some(t)
	d.Arm(1)
	for range 5 {
		unchanged(t, "other errors", d, func() {
			for _, i := range wrong() {
				is(t, "Append", d.Append(i, nil), api.ErrRange)
				is(t, "Sync", d.Sync(i), api.ErrRange)
				is(t, "Cut", d.Cut(i, 0), api.ErrRange)
				_, e := d.Read(i)
				is(t, "Read", e, api.ErrRange)
			}
			is(t, "Append", d.Append(0, make([]byte, 84)), api.ErrFull)
			is(t, "Cut", d.Cut(0, 8), api.ErrRange)
			is(t, "Cut", d.Cut(0, -1), api.ErrRange)
			d.Limit(50)
			d.Limit(100)
		})
	}
	ok(t, d.Append(0, make([]byte, 83)))
	is(t, "Append", d.Append(0, []byte("a")), api.ErrFull)
	is(t, "Down", d.Down(), false)
	is(t, "Cut", d.Cut(0, 0), api.ErrDown)
	is(t, "Size", d.Size(0), 90)
}

// P6.3: while a disk is down, every call that has an error does nothing but return it, and the others tell what is there.
func TestDown(t *testing.T) {
	for _, armed := range []int{-1, 0, 5} {
		d := some(t)
		d.Arm(0)
		is(t, "Append", d.Append(1, []byte("12")), api.ErrDown)
		d.Arm(armed)
		is(t, "Down", d.Down(), true)
		unchanged(t, "down", d, func() {
			for _, i := range numbers() {
				for range 3 {
					is(t, "Append", d.Append(i, []byte("abc")), api.ErrDown)
					is(t, "Append", d.Append(i, nil), api.ErrDown)
					is(t, "Sync", d.Sync(i), api.ErrDown)
					is(t, "Cut", d.Cut(i, 0), api.ErrDown)
					is(t, "Cut", d.Cut(i, -1), api.ErrDown)
					b, e := d.Read(i)
					is(t, "Read", e, api.ErrDown)
					is(t, "bytes of Read", len(b), 0)
				}
			}
		})
		is(t, "Used", d.Used(), 19)
		is(t, "Size", d.Size(1), 7)
		is(t, "Safe", d.Safe(1), 0)
		is(t, "Done", d.Done(), 12)
		d.Limit(20)
		is(t, "Capacity", d.Capacity(), 20)
		is(t, "Down", d.Down(), true)
		d.Crash(100, 100, 100, 100)
		is(t, "Down", d.Down(), false)
		read(t, d, 0, "abcdefg", 7)
		read(t, d, 1, "hijkl12", 7)
		for range 10 {
			ok(t, d.Sync(0))
		}
		is(t, "Append", d.Append(0, []byte("12")), api.ErrFull)
		is(t, "Done", d.Done(), 22)
	}
}

// P6.3: a crash keeps the safe bytes, and as many others of each file as it is told, with the power on and off.
func TestCrash(t *testing.T) {
	for _, c := range []struct {
		keep []int
		want [4]string
	}{
		{nil, [4]string{"abc", "", "x", ""}},
		{[]int{}, [4]string{"abc", "", "x", ""}},
		{[]int{0, 0, 0, 0}, [4]string{"abc", "", "x", ""}},
		{[]int{1}, [4]string{"abcd", "", "x", ""}},
		{[]int{4}, [4]string{"abcdefg", "", "x", ""}},
		{[]int{5}, [4]string{"abcdefg", "", "x", ""}},
		{[]int{3, 2}, [4]string{"abcdef", "hi", "x", ""}},
		{[]int{-1, 5, 5}, [4]string{"abc", "hijkl", "x", ""}},
		{[]int{math.MinInt, 4, -3, 4}, [4]string{"abc", "hijk", "x", "mnop"}},
		{[]int{0, 0, 0, 3}, [4]string{"abc", "", "x", "mno"}},
		{[]int{math.MaxInt, math.MaxInt, math.MaxInt, math.MaxInt}, [4]string{"abcdefg", "hijkl", "x", "mnop"}},
		{[]int{math.MinInt, math.MinInt, math.MinInt, math.MinInt}, [4]string{"abc", "", "x", ""}},
		{[]int{2, 0, 0, 1, 7, 8, 9}, [4]string{"abcde", "", "x", "m"}},
		{slices.Repeat([]int{1}, 1000), [4]string{"abcd", "h", "x", "m"}},
	} {
		for _, off := range []bool{false, true} {
			d := some(t)
			d.Arm(7)
			if off {
				d.Arm(0)
				is(t, "Sync", d.Sync(1), api.ErrDown)
			}
			for range 2 {
				d.Crash(c.keep...)
				is(t, "Down", d.Down(), false)
				used := 0
				for i, want := range c.want {
					read(t, d, i, want, len(want))
					used += len(want)
				}
				is(t, "Used", d.Used(), used)
				is(t, "Capacity", d.Capacity(), 100)
				is(t, "Done", d.Done(), 12)
			}
			for range 10 {
				ok(t, d.Append(0, []byte("a")))
			}
			d.Crash(3)
			read(t, d, 0, c.want[0]+"aaa", len(c.want[0])+3)
			d.Crash(3)
			read(t, d, 0, c.want[0]+"aaa", len(c.want[0])+3)
		}
	}
}

// P6.3: of an Append at which the power goes, a crash keeps as many bytes as it is told, behind those that were not safe before.
func TestCrashOfAppend(t *testing.T) {
	for n := range 9 {
		d := some(t)
		d.Arm(0)
		is(t, "Append", d.Append(0, []byte("123")), api.ErrDown)
		d.Crash(n)
		want := "abcdefg123"[:3+min(n, 7)]
		read(t, d, 0, want, len(want))
	}
}

// P6.4: arguments stay as they were, spare capacity included, and what becomes of them later does not matter.
func TestArguments(t *testing.T) {
	spare := []byte("abcSPARE")
	b := spare[:3]
	d := disk.New(100)
	ok(t, d.Append(0, b))
	ok(t, d.Append(0, b))
	ok(t, d.Append(1, b))
	ok(t, d.Sync(0))
	ok(t, d.Append(0, []byte("defgh")))
	d.Arm(0)
	is(t, "Append", d.Append(2, b), api.ErrDown)
	is(t, "Append", d.Append(0, b), api.ErrDown)
	kept := []int{2, 3, 3, 9, 77, 88}
	keep := kept[:4]
	d.Crash(keep...)
	ok(t, d.Append(1, []byte("ij")))
	ok(t, d.Append(2, []byte("kl")))
	is(t, "argument of Append", string(spare), "abcSPARE")
	if !slices.Equal(kept, []int{2, 3, 3, 9, 77, 88}) {
		t.Errorf("argument of Crash: %v", kept)
	}
	copy(spare, "########")
	for i := range kept {
		kept[i] = -1
	}
	read(t, d, 0, "abcabcde", 8)
	read(t, d, 1, "abcij", 3)
	read(t, d, 2, "abckl", 3)
}

// P6.4: what Read returns is new memory, spare capacity included, so that writing to it changes nothing else.
func TestResults(t *testing.T) {
	d := some(t)
	before := look(d)
	scribble := func(file int) []byte {
		b, e := d.Read(file)
		ok(t, e)
		b = b[:cap(b)]
		for i := range b {
			b[i] = '#'
		}
		return b
	}
	for i := range 4 {
		scribble(i)
	}
	if !slices.Equal(look(d), before) {
		t.Fatalf("Read: %v became %v", before, look(d))
	}
	l := scribble(0)
	m, e := d.Read(0)
	ok(t, e)
	if string(l) != strings.Repeat("#", len(l)) || string(m) != "abcdefg" {
		t.Fatalf("Read: %q and %q", l, m)
	}
	ok(t, d.Cut(0, 0))
	ok(t, d.Append(0, []byte("1234567890")))
	d.Crash(1)
	if string(m) != "abcdefg" || !bytes.Equal(l, bytes.Repeat([]byte("#"), len(l))) {
		t.Fatalf("Read: became %q and %q", l, m)
	}
	ok(t, d.Append(0, []byte("23")))
	_ = append(m, "####"...)
	read(t, d, 0, "123", 1)
	ok(t, d.Cut(0, 1))
	scribble(0)
	ok(t, d.Append(0, []byte("45")))
	read(t, d, 0, "145", 1)
}

// Two disks have nothing in common.
func TestTwo(t *testing.T) {
	a, b := some(t), some(t)
	unchanged(t, "other disk", b, func() {
		ok(t, a.Append(0, []byte("123")))
		ok(t, a.Cut(1, 0))
		a.Limit(3)
		a.Arm(0)
		is(t, "Sync", a.Sync(0), api.ErrDown)
	})
	ok(t, b.Sync(0))
}
