package segment_test

import (
	"bytes"
	"encoding/binary"
	"fmt"
	"hash/crc32"
	"strings"

	"bywash/api"
	"bywash/disk"
	"bywash/segment"
)

// What the document asks, reckoned in another way: the functions named after bytes give the encoding of a thing, and those named
// cut read a thing from the beginning of s, and give what is behind it, and whether there is one.

func intBytes(n int) string {
	mark, u := byte(0), uint64(n)
	if n < 0 {
		mark, u = 16, ^u
	}
	l := bytes.TrimRight(binary.LittleEndian.AppendUint64(nil, u), "\x00")
	return string(append([]byte{mark + byte(len(l))}, l...))
}

func textBytes(s string) string { return intBytes(len(s)) + s }

func frameBytes(s string) string {
	return textBytes(s) + string(binary.LittleEndian.AppendUint32(nil, crc32.ChecksumIEEE([]byte(s))))
}

func headContents(generation int, checkpoint string) string {
	return intBytes(1) + intBytes(generation) + textBytes(checkpoint)
}

func groupContents(records ...string) string {
	s := intBytes(2) + intBytes(len(records))
	for _, r := range records {
		s += textBytes(r)
	}
	return s
}

func headBytes(generation int, checkpoint string) string {
	return frameBytes(headContents(generation, checkpoint))
}

func groupBytes(records ...string) string { return frameBytes(groupContents(records...)) }

func cutInt(s string) (n int, rest string, ok bool) {
	if s == "" || s[0] >= 32 || s[0]%16 > 8 || len(s) <= int(s[0]%16) {
		return 0, "", false
	}
	var b [8]byte
	copy(b[:], s[1:1+s[0]%16])
	u := binary.LittleEndian.Uint64(b[:])
	if s[0] >= 16 {
		u = ^u
	}
	// There is one encoding of each integer, so that any other bytes are none.
	rest, ok = strings.CutPrefix(s, intBytes(int(u)))
	if !ok || len(s)-len(rest) != 1+int(s[0]%16) {
		return 0, "", false
	}
	return int(u), rest, true
}

func cutText(s string) (text, rest string, ok bool) {
	n, rest, ok := cutInt(s)
	if !ok || n < 0 || n > len(rest) {
		return "", "", false
	}
	return rest[:n], rest[n:], true
}

func cutFrame(s string) (contents, rest string, ok bool) {
	contents, _, ok = cutText(s)
	if !ok {
		return "", "", false
	}
	rest, ok = strings.CutPrefix(s, frameBytes(contents))
	return contents, rest, ok
}

// part is a segment, or, with the generation 0, none.
type part struct {
	generation int
	checkpoint string
	groups     [][]string
	size       int
}

func headOf(contents string) (generation int, checkpoint string, ok bool) {
	mark, rest, ok := cutInt(contents)
	if ok && mark == 1 {
		if generation, rest, ok = cutInt(rest); ok && generation >= 1 {
			checkpoint, rest, ok = cutText(rest)
			return generation, checkpoint, ok && rest == ""
		}
	}
	return 0, "", false
}

func groupOf(contents string) (records []string, ok bool) {
	mark, rest, ok := cutInt(contents)
	if !ok || mark != 2 {
		return nil, false
	}
	count, rest, ok := cutInt(rest)
	for ok && rest != "" {
		var r string
		r, rest, ok = cutText(rest)
		records = append(records, r)
	}
	return records, ok && count == len(records)
}

// partOf reckons the segment of a file that has the bytes s.
func partOf(s string) part {
	contents, rest, ok := cutFrame(s)
	if !ok {
		return part{}
	}
	var p part
	if p.generation, p.checkpoint, ok = headOf(contents); !ok {
		return part{}
	}
	for {
		p.size = len(s) - len(rest)
		if contents, rest, ok = cutFrame(rest); !ok {
			return p
		}
		records, ok := groupOf(contents)
		if !ok {
			return p
		}
		p.groups = append(p.groups, records)
	}
}

// text tells what p has, as told tells it of what was found.
func (p part) text() string { return fmt.Sprintf("%q %q", p.checkpoint, p.groups) }

func told(f segment.Found) string {
	var groups [][]string
	for _, g := range f.Groups {
		groups = append(groups, texts(g))
	}
	return fmt.Sprintf("%q %q", string(f.Checkpoint), groups)
}

func texts(l [][]byte) []string {
	var s []string
	for _, b := range l {
		s = append(s, string(b))
	}
	return s
}

func manyBytes(l []string) [][]byte {
	var b [][]byte
	for _, s := range l {
		b = append(b, []byte(s))
	}
	return b
}

// chosen reckons which file the log is in, and its segment.
func chosen(files [2]string) (file int, p part) {
	first, second := partOf(files[0]), partOf(files[1])
	if second.generation > first.generation {
		return 1, second
	}
	return 0, first
}

// opened reckons the segment that is found when files of these bytes are opened.
func opened(files [2]string) part {
	if _, p := chosen(files); p.generation > 0 {
		return p
	}
	return part{generation: 1, size: len(headBytes(1, ""))}
}

// step is one command for the disk.
type step func(d *disk.Disk) api.Errno

func cut(file, n int) step { return func(d *disk.Disk) api.Errno { return d.Cut(file, n) } }

func put(file int, s string) step {
	return func(d *disk.Disk) api.Errno { return d.Append(file, []byte(s)) }
}

func sync(file int) step { return func(d *disk.Disk) api.Errno { return d.Sync(file) } }

// rewriting lists the steps that rewrite a log into a file that has so many bytes.
func rewriting(file, size int, head string) []step {
	var l []step
	if size > 0 {
		l = append(l, cut(file, 0))
	}
	return append(l, put(file, head), sync(file))
}

// opening lists the steps that open the log of a disk that is not down.
func opening(d *disk.Disk) []step {
	files := [2]string{content(d, 0), content(d, 1)}
	file, p := chosen(files)
	var l []step
	if p.generation == 0 {
		if files[1] != "" {
			l = append(l, cut(1, 0))
		}
		return append(l, rewriting(0, len(files[0]), headBytes(1, ""))...)
	}
	if p.size < len(files[file]) {
		l = append(l, cut(file, p.size))
	} else if d.Safe(file) < p.size {
		l = append(l, sync(file))
	}
	if files[1-file] != "" {
		l = append(l, cut(1-file, 0))
	}
	return l
}

func content(d *disk.Disk, file int) string {
	b, _ := d.Read(file)
	return string(b)
}

// do takes the steps up to the first error.
func do(d *disk.Disk, l []step) api.Errno {
	for _, s := range l {
		if e := s(d); e != api.OK {
			return e
		}
	}
	return api.OK
}

// reckoned is a log that is reckoned in the words of the chapter, on a disk of its own.
type reckoned struct {
	d                      *disk.Disk
	file, generation, size int
	loose, down            bool
}

func reckonOpen(d *disk.Disk) (*reckoned, string, api.Errno) {
	if d.Down() {
		return nil, "", api.ErrDown
	}
	files := [2]string{content(d, 0), content(d, 1)}
	if e := do(d, opening(d)); e != api.OK {
		return nil, "", e
	}
	file, _ := chosen(files)
	p := opened(files)
	return &reckoned{d: d, file: file, generation: p.generation, size: p.size}, p.text(), api.OK
}

func (r *reckoned) append(records []string) api.Errno {
	if r.down || len(records) == 0 {
		return r.state()
	}
	e := r.d.Append(r.file, []byte(groupBytes(records...)))
	if e == api.OK {
		r.size += len(groupBytes(records...))
		r.loose = true
	}
	r.down = e == api.ErrDown
	return e
}

func (r *reckoned) state() api.Errno {
	if r.down {
		return api.ErrDown
	}
	return api.OK
}

func (r *reckoned) sync() api.Errno {
	if r.down || !r.loose {
		return r.state()
	}
	e := r.d.Sync(r.file)
	r.loose = e != api.OK
	r.down = e == api.ErrDown
	return e
}

func (r *reckoned) commit(records []string) api.Errno {
	e := r.append(records)
	if e == api.OK {
		e = r.sync()
	}
	return e
}

func (r *reckoned) compact(checkpoint string) api.Errno {
	if r.down {
		return api.ErrDown
	}
	head, old := headBytes(r.generation+1, checkpoint), r.file
	e := do(r.d, rewriting(1-old, r.d.Size(1-old), head))
	if e == api.OK {
		*r = reckoned{d: r.d, file: 1 - old, generation: r.generation + 1, size: len(head)}
		e = r.d.Cut(old, 0)
	}
	r.down = e == api.ErrDown
	return e
}
