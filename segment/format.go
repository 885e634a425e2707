package segment

import "bywash/frame"

// The integers with which the contents of heads and of groups begin.
const (
	headMark  = 1
	groupMark = 2
)

// noGeneration is the generation of what is no segment.
const noGeneration = 0

// segment is what the first bytes of a file are.
type segment struct {
	generation int
	size       int
	found      Found
}

func headFrame(generation int, checkpoint []byte) []byte {
	var o frame.Out
	o.Int(headMark).Int(generation).Text(string(checkpoint))
	return frame.Frame(o.Bytes())
}

func groupFrame(records [][]byte) []byte {
	var o frame.Out
	o.Int(groupMark).Int(len(records))
	for _, r := range records {
		o.Text(string(r))
	}
	return frame.Frame(o.Bytes())
}

// segmentOf returns the segment with which a file of these bytes begins.
func segmentOf(b []byte) segment {
	frames, _ := frame.Scan(b)
	if len(frames) == 0 {
		return segment{}
	}
	s := readHead(frames[0])
	if s.generation == noGeneration {
		return segment{}
	}
	for _, contents := range frames[1:] {
		group, ok := readGroup(contents)
		if !ok {
			break
		}
		s.found.Groups = append(s.found.Groups, group)
		s.size += frameSize(contents)
	}
	return s
}

// frameSize returns how many bytes the frame of these contents has.
func frameSize(contents []byte) int { return len(frame.Frame(contents)) }

// readHead returns the segment that has only this head.
func readHead(contents []byte) segment {
	i := frame.NewIn(contents)
	mark, generation, checkpoint := i.Int(), i.Int(), i.Text()
	if mark != headMark || generation < firstGeneration || !i.Done() {
		return segment{}
	}
	return segment{generation: generation, size: frameSize(contents), found: Found{Checkpoint: []byte(checkpoint)}}
}

// readGroup returns the records of a group, and whether it is one.
func readGroup(contents []byte) (records [][]byte, ok bool) {
	i := frame.NewIn(contents)
	if i.Int() != groupMark {
		return nil, false
	}
	// Each record has at least one byte, so that greater numbers are wrong.
	for range i.Count(len(contents)) {
		records = append(records, []byte(i.Text()))
		if i.Bad() {
			break
		}
	}
	if !i.Done() {
		return nil, false
	}
	return records, true
}
