package frame_test

import (
	"hash/crc32"
	"math"
	"math/rand"
	"slices"
	"strings"
	"testing"

	"bywash/frame"
)

// P7.3: the checksum is the CRC-32 of IEEE 802.3.
func TestSum(t *testing.T) {
	for _, c := range []struct {
		text string
		want uint32
	}{
		{"", 0}, {"a", 0xe8b7be43}, {"abc", 0x352441c2}, {"123456789", 0xcbf43926}, {"message digest", 0x20159d7f},
		{"The quick brown fox jumps over the lazy dog", 0x414fa339}, {"\x00", 0xd202ef8d}, {"\xff", 0xff000000},
		{"\x00\x00\x00\x00", 0x2144df1c}, {"\xff\xff\xff\xff", 0xffffffff}, {strings.Repeat("\x00", 32), 0x190a55ad},
	} {
		is(t, "Sum of "+shown(c.text), frame.Sum([]byte(c.text)), c.want)
	}
	is(t, "Sum of nil", frame.Sum(nil), 0)
	for a := range 256 {
		for b := range 256 {
			for _, l := range [][]byte{{byte(a)}, {byte(a), byte(b)}, {0, byte(a), byte(b), 0}} {
				is(t, "Sum of "+shown(string(l)), frame.Sum(l), crc32.ChecksumIEEE(l))
			}
		}
	}
	r := rand.New(rand.NewSource(1))
	for n := range 300 {
		l := make([]byte, n)
		r.Read(l)
		is(t, "Sum", frame.Sum(l), crc32.ChecksumIEEE(l))
	}
	for _, s := range samples() {
		is(t, "Sum", frame.Sum([]byte(s)), crc32.ChecksumIEEE([]byte(s)))
	}
}

// P7.3: a frame is the length, the bytes, and the checksum.
func TestFrame(t *testing.T) {
	is(t, "Frame of nil", string(frame.Frame(nil)), "\x00\x00\x00\x00\x00")
	is(t, "Frame of no bytes", string(frame.Frame([]byte{})), "\x00\x00\x00\x00\x00")
	is(t, "Frame of a", string(frame.Frame([]byte("a"))), "\x01\x01a\x43\xbe\xb7\xe8")
	is(t, "Frame of nine", string(frame.Frame([]byte("123456789"))), "\x01\x09123456789\x26\x39\xf4\xcb")
	is(t, "Frame of 300", string(frame.Frame(make([]byte, 300))[:4]), "\x02\x2c\x01\x00")
	for _, s := range samples() {
		is(t, "Frame", string(frame.Frame([]byte(s))), frameBytes(s))
	}
}

// scanned holds that Scan finds want in b, and nothing else, and that the last of them ends at end.
func scanned(t *testing.T, what, b string, end int, want ...string) {
	t.Helper()
	l, got := frame.Scan(capped(b, frameBytes("behind")))
	if !slices.Equal(texts(l), want) || got != end {
		t.Fatalf("Scan of %s: %q, %d instead of %q, %d", what, texts(l), got, want, end)
	}
}

// P7.3: no frame, one, and several one after another.
func TestScan(t *testing.T) {
	if l, end := frame.Scan(nil); len(l) != 0 || end != 0 {
		t.Errorf("Scan of nil: %v, %d", l, end)
	}
	scanned(t, "no bytes", "", 0)
	scanned(t, "the frame of no bytes", "\x00\x00\x00\x00\x00", 5, "")
	scanned(t, "the frame of a", "\x01\x01a\x43\xbe\xb7\xe8", 7, "a")
	scanned(t, "three frames", "\x01\x01a\x43\xbe\xb7\xe8\x00\x00\x00\x00\x00\x01\x01a\x43\xbe\xb7\xe8", 19, "a", "", "a")
	for _, s := range samples() {
		b := frameBytes(s)
		scanned(t, "a frame", b, len(b), s)
		scanned(t, "a frame twice", b+b, 2*len(b), s, s)
		scanned(t, "a frame of it", frameBytes(b), len(frameBytes(b)), b)
	}
	b := ""
	for _, s := range samples() {
		b += frameBytes(s)
	}
	scanned(t, "all frames", b, len(b), samples()...)
	n := 3000
	scanned(t, "empty frames", strings.Repeat(frameBytes(""), n), 5*n, slices.Repeat([]string{""}, n)...)
}

// wrongFrames lists bytes that are no frame, and do not begin with one.
func wrongFrames() []string {
	l := []string{
		"\x01", "\x00\x00\x00\x00", "\x00\x00\x00\x00\x01", "\x00\x01\x00\x00\x00", "\x00\xff\xff\xff\xff", "\x01\x01a\xe8\xb7\xbe\x43",
		"\x01\x01a\xbc\x41\x48\x17", "\x01\x01b\x43\xbe\xb7\xe8", "\x01\x01a\x42\xbe\xb7\xe8", "\x01\x01a\x43\xbf\xb7\xe8", "\x01\x01a\x43\xbe\xb6\xe8",
		"\x01\x01a\x43\xbe\xb7\xe9", "\x01\x02a\x43\xbe\xb7\xe8", "\x01\x00\x00\x00\x00\x00", "\x02\x01\x00a\x43\xbe\xb7\xe8", "\x11\x01a\x43\xbe\xb7\xe8",
		"\x09\x01a\x43\xbe\xb7\xe8", "\x10\x00\x00\x00\x00", "\xff\xff\xff\xff\xff\xff", "\x20\x00\x00\x00\x00", "a\x43\xbe\xb7\xe8",
		"\x08\x01\x00\x00\x00\x00\x00\x00\x00a\x43\xbe\xb7\xe8",
	}
	for _, n := range []int{-1, -2, math.MinInt, math.MaxInt, math.MaxInt - 4, math.MaxInt - 3, 1 << 31, 1 << 32, 1 << 62, 100, 300} {
		l = append(l, intBytes(n), intBytes(n)+"\x00\x00\x00\x00", intBytes(n)+"a\x43\xbe\xb7\xe8")
	}
	for _, s := range []string{"", "a", "abc", strings.Repeat("x", 300)} {
		b := frameBytes(s)
		for n := 1; n < len(b); n++ {
			l = append(l, b[:n])
		}
	}
	return l
}

// P7.3: what is behind the frames and is none is not scanned, nor are frames behind that.
func TestScanBehind(t *testing.T) {
	sound := frameBytes("sound")
	for _, wrong := range wrongFrames() {
		what := shown(wrong)
		scanned(t, what, wrong, 0)
		scanned(t, "a frame and "+what, sound+wrong, len(sound), "sound")
		scanned(t, "three frames and "+what, sound+frameBytes("")+sound+wrong, 2*len(sound)+5, "sound", "", "sound")
		if l, end := frame.Scan(capped(sound+wrong, sound)); len(l) != 1 || end != len(sound) {
			t.Errorf("Scan of %s: %d, %d", what, len(l), end)
		}
		heldScan(t, wrong+sound)
		heldScan(t, sound+wrong+sound)
	}
}

// P7.3: frames cut off at every place: what is cut off lies in spare capacity.
func TestScanCut(t *testing.T) {
	want := []string{"", "a", "", "abc", strings.Repeat("x", 300), "z"}
	b, ends := "", []int{0}
	for _, s := range want {
		b += frameBytes(s)
		ends = append(ends, len(b))
	}
	for n := range len(b) + 1 {
		whole := 0
		for whole < len(want) && ends[whole+1] <= n {
			whole++
		}
		l, end := frame.Scan(capped(b[:n], b[n:]))
		if !slices.Equal(texts(l), want[:whole]) || end != ends[whole] {
			t.Fatalf("Scan of %d bytes: %q, %d", n, texts(l), end)
		}
	}
}

// P7.3: of three frames, the second one with one byte changed in any way: it is no frame then.
func TestScanChanged(t *testing.T) {
	for _, s := range []string{"", "a", "abcd", strings.Repeat("x", 256)} {
		first, second := frameBytes("first"), frameBytes(s)
		for k := range len(second) {
			for c := range 256 {
				b := first + second[:k] + string([]byte{byte(c)}) + second[k+1:] + frameBytes("third")
				if byte(c) != second[k] {
					scanned(t, "a changed frame", b, len(first), "first")
				}
			}
		}
	}
}

// P7.3: frames with a few bytes changed, removed, doubled or added.
func TestScanMutated(t *testing.T) {
	r := rand.New(rand.NewSource(9))
	b := frameBytes("first") + frameBytes("") + frameBytes("second") + frameBytes(strings.Repeat("x", 300)) + frameBytes("third")
	for range 20000 {
		heldScan(t, mutated(r, b))
	}
}
