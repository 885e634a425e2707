package segment_test

import (
	"fmt"
	"strings"
	"testing"

	"bywash/api"
	"bywash/disk"
	"bywash/segment"
)

// action is a call of a log: the kind is a, s, c or k, for Append, Sync, Commit and Compact.
type action struct {
	kind byte
	args []string
}

func (a action) run(l *segment.Log) api.Errno {
	switch a.kind {
	case 'a':
		return l.Append(manyBytes(a.args)...)
	case 's':
		return l.Sync()
	case 'c':
		return l.Commit(manyBytes(a.args)...)
	}
	return l.Compact([]byte(a.args[0]))
}

// actions reads calls: letters, each followed by its records or its checkpoint, with commas between them.
func actions(s string) []action {
	var l []action
	for _, f := range strings.Fields(s) {
		a := action{kind: f[0]}
		if len(f) > 1 {
			a.args = strings.Split(f[1:], ",")
		}
		l = append(l, a)
	}
	return l
}

// scenarios lists calls whose checkpoints and groups all differ, so that it can be told which of them were found.
func scenarios() []string {
	return []string{
		"", "a1", "a1 s", "c1", "a1 a2,3 a4", "a1 a2 s a3 a4", "c1 a2 c3 a4", "c1,, a2 s s a c c3",
		"kA", "c1 kA", "a1 kA", "c1 a2 kA", "kA a1 a2 s a3", "c1 kA c2 kB c3", "c1 a2 kA a3 a4 kB a5 s a6", "kA kB kC kD", "a1 kA a2 kB a3 kC s",
	}
}

// past is what was done to a log since its checkpoint, up to a power loss: of its groups, so many were synced.
type past struct {
	checkpoint  string
	groups      [][]string
	synced      int
	next        string
	compacting  bool
	interrupted bool
}

// live takes the actions until the power goes, and tells what was done.
func live(t *testing.T, l *segment.Log, todo []action) past {
	var p past
	for _, a := range todo {
		e := a.run(l)
		if e != api.OK && e != api.ErrDown {
			t.Fatalf("error %d", e)
		}
		p.note(a, e)
		if e == api.ErrDown {
			return p
		}
	}
	return p
}

func (p *past) note(a action, e api.Errno) {
	p.interrupted = e == api.ErrDown
	switch {
	case a.kind == 'k' && p.interrupted:
		p.next, p.compacting = a.args[0], true
	case a.kind == 'k':
		*p = past{checkpoint: a.args[0]}
	case len(a.args) > 0:
		p.groups = append(p.groups, a.args)
	}
	if (a.kind == 's' || a.kind == 'c') && !p.interrupted {
		p.synced = len(p.groups)
	}
}

// allowed lists what may be found after p.
func (p past) allowed() []string {
	var l []string
	for n := p.synced; n <= len(p.groups); n++ {
		l = append(l, has(p.checkpoint, p.groups[:n]...))
	}
	if p.compacting {
		l = append(l, has(p.next))
	}
	return l
}

// started returns a new disk, and the log of it that has just been opened.
func started(t *testing.T) (*disk.Disk, *segment.Log) {
	t.Helper()
	d := disk.New(roomy)
	return d, open(t, d, 1, has(""))
}

// replayed returns a disk on which the actions were taken, up to a power loss after n commands.
func replayed(t *testing.T, todo []action, n int) (*disk.Disk, *segment.Log, past) {
	t.Helper()
	d, l := started(t)
	d.Arm(n)
	p := live(t, l, todo)
	return d, l, p
}

// same returns a disk with the files of d, all of whose bytes are safe.
func same(t *testing.T, d *disk.Disk) *disk.Disk {
	t.Helper()
	return safely(t, content(d, 0), content(d, 1))
}

// keeps lists how many bytes of file 0 and 1 may be kept: each number for each, up to one more than there are.
func keeps(d *disk.Disk) [][]int {
	var l [][]int
	for first := 0; first <= d.Size(0)-d.Safe(0)+1; first++ {
		for second := 0; second <= d.Size(1)-d.Safe(1)+1; second++ {
			l = append(l, []int{first, second})
		}
	}
	return append(l, nil, []int{-1, -1})
}

// found opens the log of d, and tells what it has.
func found(t *testing.T, d *disk.Disk) string {
	t.Helper()
	_, f, e := segment.Open(d)
	ok(t, e)
	return told(f)
}

// P8.5: after a power loss at any command, whatever bytes are kept, Open finds what the chapter says: all that was synced, and a prefix
// of the rest; the checkpoint of a Compact, or all before it. It is the same when it is opened again, with power losses in Open too.
func TestCrash(t *testing.T) {
	for _, s := range scenarios() {
		todo := actions(s)
		seen, possible := map[string]bool{}, map[string]bool{}
		for n, more := 0, true; more; n++ {
			d, _, p := replayed(t, todo, n)
			more = p.interrupted
			for _, want := range p.allowed() {
				possible[want] = true
			}
			for _, keep := range keeps(d) {
				d, _, _ := replayed(t, todo, n)
				d.Crash(keep...)
				got := found(t, same(t, d))
				seen[got] = true
				if !strings.Contains(strings.Join(p.allowed(), "\n")+"\n", got+"\n") {
					t.Fatalf("%s, power lost after %d commands, %v kept: found %s instead of one of %q", s, n, keep, got, p.allowed())
				}
				again(t, d, got)
			}
		}
		is(t, s+": found", fmt.Sprint(seen), fmt.Sprint(possible))
	}
}

// again holds that this is found in the files of d, even if the power goes in Open, at any command, and once more in the next one;
// and that the log goes on from there.
func again(t *testing.T, d *disk.Disk, want string) {
	t.Helper()
	for first, interrupted := 0, true; interrupted; first++ {
		for second := range 3 {
			for _, keep := range [][]int{nil, {1, 1}, {roomy, roomy}} {
				x := same(t, d)
				x.Arm(first)
				_, _, e := segment.Open(x)
				interrupted = e == api.ErrDown
				x.Crash(keep...)
				x.Arm(second)
				segment.Open(x)
				x.Crash(keep...)
				is(t, "found again", found(t, x), want)
				is(t, "found again", found(t, x), want)
			}
		}
	}
	l, f, e := segment.Open(d)
	ok(t, e)
	is(t, "found", told(f), want)
	p := part{checkpoint: string(f.Checkpoint), groups: [][]string{}}
	for _, g := range append(f.Groups, manyBytes(group("more"))) {
		p.groups = append(p.groups, texts(g))
	}
	ok(t, l.Commit([]byte("more")))
	d.Crash()
	is(t, "found with more", found(t, d), p.text())
}

// P8.5: a crash with the power on is like one at the next command.
func TestCrashPowered(t *testing.T) {
	for _, s := range scenarios() {
		d, _, p := replayed(t, actions(s), -1)
		for _, keep := range keeps(d) {
			d, _, _ := replayed(t, actions(s), -1)
			d.Crash(keep...)
			got := found(t, d)
			if !strings.Contains(strings.Join(p.allowed(), "\n")+"\n", got+"\n") {
				t.Fatalf("%s, %v kept: found %s instead of one of %q", s, keep, got, p.allowed())
			}
		}
	}
}

// P8.5: what was appended is found as far as whole groups were kept.
func TestCrashKeeps(t *testing.T) {
	groups := [][]string{{"one"}, {"", "two"}, {strings.Repeat("three", 60)}}
	s := ""
	for _, g := range groups {
		s += groupBytes(g...)
	}
	for keep := range len(s) + 2 {
		d, l := started(t)
		ok(t, l.Commit([]byte("safe")))
		for _, g := range groups {
			ok(t, l.Append(manyBytes(g)...))
		}
		d.Crash(keep)
		n, size := 0, 0
		for ; n < len(groups) && size+len(groupBytes(groups[n]...)) <= keep; n++ {
			size += len(groupBytes(groups[n]...))
		}
		want := append([][]string{{"safe"}}, groups[:n]...)
		l = open(t, d, 1, has("", want...))
		settled(t, d, l, 0, headBytes(1, "")+groupBytes("safe")+s[:size])
	}
}

// P8.1, P8.5: Open returns the first error of the disk at each of its commands, and nothing else; what is found later is what the
// bytes that were kept are.
func TestOpenDown(t *testing.T) {
	s, _ := sample(3, "c")
	older, _ := sample(2, "old")
	l := [][2]string{{"", ""}, {"x", ""}, {"", "x"}, {"x", "x"}, {s, ""}, {"", s}, {s, older}, {older, s}, {s, s}, {s + "x", older}, {"x", s + "x"}, {s, "x"}}
	for _, files := range l {
		for _, safe := range [][2]int{{0, 0}, {len(files[0]) / 2, len(files[1]) / 2}, {len(files[0]), len(files[1])}} {
			d := laid(t, files, safe)
			commands := len(opening(d))
			for n := range commands {
				for k := range 40 {
					openDown(t, laid(t, files, safe), laid(t, files, safe), n, []int{k * len(s) / 30, (39 - k) * len(s) / 30})
				}
			}
			d.Arm(commands)
			_, f, e := segment.Open(d)
			ok(t, e)
			is(t, "found", told(f), opened(files).text())
			is(t, "Down", d.Down(), false)
		}
	}
}

// openDown holds that the power goes in Open of d after n commands, and compares with twin, on which the steps are taken one by one.
func openDown(t *testing.T, d, twin *disk.Disk, n int, keep []int) {
	t.Helper()
	steps := opening(twin)
	d.Arm(n)
	twin.Arm(n)
	is(t, "steps", do(twin, steps), api.ErrDown)
	for range 3 {
		l, f, e := segment.Open(d)
		is(t, "error", e, api.ErrDown)
		is(t, "no log", l == nil, true)
		is(t, "nothing found", f.Checkpoint == nil && f.Groups == nil, true)
		is(t, "disk", look(d), look(twin))
	}
	d.Crash(keep...)
	want := opened([2]string{content(d, 0), content(d, 1)})
	l := open(t, d, want.generation, want.text())
	is(t, "Size", l.Size(), want.size)
	is(t, "Used", d.Used(), want.size)
}

// P8.4: after ErrDown, whichever call returned it first, all calls return it and do nothing, even with the power back.
func TestDown(t *testing.T) {
	for _, s := range scenarios() {
		todo := actions(s)
		for n, more := 0, true; more; n++ {
			d, l, p := replayed(t, todo, n)
			more = p.interrupted
			if !more {
				break
			}
			dead(t, d, l)
			d.Arm(-1)
			dead(t, d, l)
			d.Crash(3, 3)
			dead(t, d, l)
			other := found(t, d)
			dead(t, d, l)
			is(t, "found again", found(t, d), other)
		}
	}
}

func dead(t *testing.T, d *disk.Disk, l *segment.Log) {
	t.Helper()
	unchanged(t, "after ErrDown", d, l, func() {
		for range 2 {
			is(t, "Append", l.Append([]byte("a")), api.ErrDown)
			is(t, "Append of nothing", l.Append(), api.ErrDown)
			is(t, "Append of too much", l.Append(make([]byte, roomy)), api.ErrDown)
			is(t, "Sync", l.Sync(), api.ErrDown)
			is(t, "Commit", l.Commit([]byte("a")), api.ErrDown)
			is(t, "Commit of nothing", l.Commit(), api.ErrDown)
			is(t, "Compact", l.Compact([]byte("c")), api.ErrDown)
			is(t, "Compact with too much", l.Compact(make([]byte, roomy)), api.ErrDown)
			is(t, "Need", segment.Need([]byte("a")), 13)
		}
	})
}

// P8.2 to P8.4: a command that is not executed changes nothing of what a log tells; those before it, in the same call, do.
func TestDownState(t *testing.T) {
	a := len(groupBytes("a"))
	first, head := len(headBytes(1, "")), len(headBytes(2, "new"))
	for _, c := range []struct {
		before, last string
		commands     int
		want         logLook
	}{
		{"", "ab", 0, logLook{1, first, false}},
		{"aa", "ab", 0, logLook{1, first + a, true}},
		{"aa", "s", 0, logLook{1, first + a, true}},
		{"", "cb", 0, logLook{1, first, false}},
		{"", "cb", 1, logLook{1, first + a, true}},
		{"aa", "cb", 1, logLook{1, first + 2*a, true}},
		{"aa", "knew", 0, logLook{1, first + a, true}},
		{"aa", "knew", 1, logLook{1, first + a, true}},
		{"ca", "knew", 1, logLook{1, first + a, false}},
		{"aa", "knew", 2, logLook{2, head, false}},
	} {
		d, l := started(t)
		live(t, l, actions(c.before))
		d.Arm(c.commands)
		is(t, "interrupted", live(t, l, actions(c.last)).interrupted, true)
		is(t, c.before+", "+c.last, lookLog(l), c.want)
	}
}

// P8.2: what does nothing has no error, as long as no call had one, even if the power is gone.
func TestDownUnnoticed(t *testing.T) {
	d, l := started(t)
	ok(t, l.Commit([]byte("a")))
	ok(t, d.Append(1, []byte("x")))
	d.Arm(0)
	_, _, e := segment.Open(d)
	is(t, "another Open", e, api.ErrDown)
	unchanged(t, "nothing to do", d, l, func() {
		ok(t, l.Append())
		ok(t, l.Sync())
		ok(t, l.Commit())
	})
	is(t, "Append", l.Append([]byte("a")), api.ErrDown)
	dead(t, d, l)
}

// P8.1: a disk that is down has no log to open.
func TestOpenOff(t *testing.T) {
	d, l := started(t)
	d.Arm(0)
	is(t, "Commit", l.Commit([]byte("a")), api.ErrDown)
	for range 3 {
		x, f, e := segment.Open(d)
		is(t, "error", e, api.ErrDown)
		is(t, "no log", x == nil, true)
		is(t, "nothing found", f.Checkpoint == nil && f.Groups == nil, true)
	}
}
