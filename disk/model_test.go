package disk_test

import (
	"math/rand"
	"slices"
	"testing"

	"bywash/api"
	"bywash/disk"
)

// cell is a byte of a file, which knows for itself whether it is safe.
type cell struct {
	b    byte
	safe bool
}

// model reckons cell by cell what a disk does.
type model struct {
	files     map[int][]cell
	capacity  int
	done      int
	armed     bool
	countdown int
	off       bool
}

func newModel(capacity int) *model {
	return &model{files: map[int][]cell{0: nil, 1: nil, 2: nil, 3: nil}, capacity: capacity}
}

func (m *model) used() int {
	n := 0
	for _, f := range m.files {
		n += len(f)
	}
	return n
}

func (m *model) wrong(file int) api.Errno {
	_, there := m.files[file]
	switch {
	case m.off:
		return api.ErrDown
	case !there:
		return api.ErrRange
	}
	return api.OK
}

// step reckons a command, of which one part is done in any case, and the other one only with the power on.
func (m *model) step(always, on func()) api.Errno {
	always()
	if m.armed && m.countdown == 0 {
		m.off = true
		return api.ErrDown
	}
	m.countdown--
	m.done++
	on()
	return api.OK
}

func nothing() {}

func (m *model) append(file int, b []byte) api.Errno {
	if e := m.wrong(file); e != api.OK {
		return e
	}
	if m.used()+len(b) > m.capacity {
		return api.ErrFull
	}
	return m.step(func() {
		for _, x := range b {
			m.files[file] = append(m.files[file], cell{b: x})
		}
	}, nothing)
}

func (m *model) settle(file int) {
	for i := range m.files[file] {
		m.files[file][i].safe = true
	}
}

func (m *model) sync(file int) api.Errno {
	if e := m.wrong(file); e != api.OK {
		return e
	}
	return m.step(nothing, func() { m.settle(file) })
}

func (m *model) cut(file, n int) api.Errno {
	if e := m.wrong(file); e != api.OK {
		return e
	}
	if n < 0 || n > len(m.files[file]) {
		return api.ErrRange
	}
	return m.step(nothing, func() {
		m.files[file] = m.files[file][:n]
		m.settle(file)
	})
}

func (m *model) arm(n int) { m.armed, m.countdown = n >= 0, n }

func (m *model) limit(n int) {
	if n >= 0 && n <= most {
		m.capacity = n
	}
}

func (m *model) crash(keep []int) {
	for file := range 4 {
		var left []cell
		lost := 0
		for _, c := range m.files[file] {
			if !c.safe {
				lost++
			}
			if c.safe || file < len(keep) && lost <= keep[file] {
				left = append(left, cell{c.b, true})
			}
		}
		m.files[file] = left
	}
	m.armed, m.off = false, false
}

func (m *model) look() []seen {
	var l []seen
	for _, i := range numbers() {
		s := seen{e: m.wrong(i), used: m.used(), capacity: m.capacity, done: m.done, down: m.off}
		for _, c := range m.files[i] {
			if !m.off {
				s.bytes += string([]byte{c.b})
			}
			s.size++
			if c.safe {
				s.safe++
			}
		}
		l = append(l, s)
	}
	return l
}

// both does some same thing to d and m, tells what it was, and returns the errors of both.
func both(r *rand.Rand, d *disk.Disk, m *model) (what string, got, want api.Errno) {
	file := r.Intn(4)
	if r.Intn(20) == 0 {
		file = numbers()[r.Intn(len(numbers()))]
	}
	switch k := r.Intn(40); {
	case k < 16:
		b := make([]byte, r.Intn(9))
		r.Read(b)
		return "Append", d.Append(file, b), m.append(file, b)
	case k < 22:
		return "Sync", d.Sync(file), m.sync(file)
	case k < 30:
		n := r.Intn(len(m.files[file])+4) - 1
		return "Cut", d.Cut(file, n), m.cut(file, n)
	case k < 34:
		n := r.Intn(8) - 2
		d.Arm(n)
		m.arm(n)
		return "Arm", 0, 0
	case k < 36:
		n := []int{-1, most + 1, 0, 20, 40, 60, 80, 100, most}[r.Intn(9)]
		d.Limit(n)
		m.limit(n)
		return "Limit", 0, 0
	}
	keep := make([]int, r.Intn(7))
	for i := range keep {
		keep[i] = r.Intn(12) - 2
	}
	d.Crash(keep...)
	m.crash(keep)
	return "Crash", 0, 0
}

// P6.1 to P6.3: a disk does what the model reckons, whatever is done to it, one thing after another.
func TestModel(t *testing.T) {
	r := rand.New(rand.NewSource(6))
	counts := map[string]int{}
	for range 300 {
		capacity := 20 + r.Intn(80)
		d, m := disk.New(capacity), newModel(capacity)
		for i := range 100 {
			what, got, want := both(r, d, m)
			if got != want {
				t.Fatalf("step %d, %s: %d instead of %d", i, what, got, want)
			}
			if g, w := look(d), m.look(); !slices.Equal(g, w) {
				t.Fatalf("step %d, %s: %v instead of %v", i, what, g, w)
			}
			if want != api.OK {
				what += " with an error"
			}
			counts[what]++
		}
	}
	for _, what := range []string{"Append", "Append with an error", "Sync", "Sync with an error", "Cut", "Cut with an error", "Arm", "Limit", "Crash"} {
		if counts[what] < 100 {
			t.Errorf("%s: only %d of them", what, counts[what])
		}
	}
}
