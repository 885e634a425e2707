package segment_test

import (
	"math/rand"
	"slices"
	"strings"
	"testing"

	"bywash/api"
	"bywash/disk"
	"bywash/segment"
)

// pair is two disks to which the same things are done, by a log and by the reckoning of it.
type pair struct {
	r      *rand.Rand
	a, b   *disk.Disk
	log    *segment.Log
	want   *reckoned
	counts map[string]int
}

func newPair(r *rand.Rand, counts map[string]int) *pair {
	capacity := 40 + r.Intn(260)
	return &pair{r: r, a: disk.New(capacity), b: disk.New(capacity), counts: counts}
}

func (p *pair) text() string {
	b := make([]byte, p.r.Intn(12))
	p.r.Read(b)
	return string(b)
}

func (p *pair) records() []string {
	l := make([]string, p.r.Intn(4))
	for k := range l {
		l[k] = p.text()
	}
	return l
}

// damage lays something at the end of a file that the log knows nothing of: frames that are none of its own among it.
func (p *pair) damage() {
	frames := []string{headBytes(p.r.Intn(9)-1, p.text()), groupBytes(p.records()...), groupBytes(p.records()...), frameBytes(p.text()), p.text()}
	s := ""
	for range p.r.Intn(4) {
		s += frames[p.r.Intn(len(frames))]
	}
	s = s[:len(s)-p.r.Intn(len(s)+1)*p.r.Intn(2)]
	file, clear := p.r.Intn(2), p.r.Intn(3) == 0
	for _, d := range []*disk.Disk{p.a, p.b} {
		if clear {
			d.Cut(file, 0)
		}
		d.Append(file, []byte(s))
	}
}

// open opens both logs, after whatever may have become of the disks.
func (p *pair) open() (what string, got, want api.Errno, gotText, wantText string) {
	if p.r.Intn(3) == 0 {
		p.damage()
	}
	var found segment.Found
	p.log, found, got = segment.Open(p.a)
	p.want, wantText, want = reckonOpen(p.b)
	if got != api.OK {
		wantText = told(segment.Found{})
	}
	return "Open", got, want, told(found), wantText
}

// disturb arms, limits or crashes both disks.
func (p *pair) disturb() string {
	switch k := p.r.Intn(5); {
	case k < 2:
		n := p.r.Intn(6) - 1
		p.a.Arm(n)
		p.b.Arm(n)
		return "Arm"
	case k < 3:
		n := 20 + p.r.Intn(300)
		p.a.Limit(n)
		p.b.Limit(n)
		return "Limit"
	}
	keep := []int{p.r.Intn(40), p.r.Intn(40)}
	p.a.Crash(keep...)
	p.b.Crash(keep...)
	p.log, p.want = nil, nil
	return "Crash"
}

// act does some same thing to both, and tells what it was, and the errors of both.
func (p *pair) act() (what string, got, want api.Errno) {
	switch k := p.r.Intn(12); {
	case k < 4:
		l := p.records()
		return "Append", p.log.Append(manyBytes(l)...), p.want.append(l)
	case k < 7:
		return "Sync", p.log.Sync(), p.want.sync()
	case k < 9:
		l := p.records()
		return "Commit", p.log.Commit(manyBytes(l)...), p.want.commit(l)
	}
	s := p.text()
	return "Compact", p.log.Compact([]byte(s)), p.want.compact(s)
}

// turn does one thing to both, and tells what differs then, if anything does.
func (p *pair) turn() (what, differs string) {
	var got, want api.Errno
	var gotText, wantText string
	switch {
	case p.r.Intn(9) == 0:
		what = p.disturb()
	case p.log == nil || p.r.Intn(25) == 0:
		what, got, want, gotText, wantText = p.open()
	default:
		what, got, want = p.act()
	}
	if want != api.OK {
		p.counts[what+" refused"]++
	}
	p.counts[what]++
	switch {
	case got != want:
		return what, "error"
	case gotText != wantText:
		return what, "found"
	case look(p.a) != look(p.b):
		return what, "disk"
	case (p.log == nil) != (p.want == nil):
		return what, "log"
	case p.log != nil && lookLog(p.log) != (logLook{p.want.generation, p.want.size, p.want.loose}):
		return what, "state"
	}
	return what, ""
}

// P8.1 to P8.4: logs do what is reckoned, whatever is done to them and to their disks, one thing after another.
func TestModel(t *testing.T) {
	r := rand.New(rand.NewSource(8))
	counts := map[string]int{}
	for range 1500 {
		p := newPair(r, counts)
		var done []string
		for range 60 {
			what, differs := p.turn()
			done = append(done, what)
			if differs != "" {
				t.Fatalf("%s differs after %s", differs, strings.Join(done, ", "))
			}
		}
	}
	for _, what := range slices.Sorted(slices.Values([]string{"Open", "Append", "Sync", "Commit", "Compact"})) {
		if counts[what] < 1000 || counts[what+" refused"] < 200 {
			t.Errorf("%s: only %d, %d of them refused", what, counts[what], counts[what+" refused"])
		}
	}
}
