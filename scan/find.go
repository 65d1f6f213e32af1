package scan

import (
	"slices"

	"clockwork/api"
	"clockwork/disk"
	"clockwork/frame"
	"clockwork/segment"
)

// found is the log on a disk.
type found struct {
	records [][]byte
	older   []int // the segments in front of the first one
	last    part  // where the log goes on
	none    bool  // there are no segments; last is the one to be created
}

// part is a segment of a log.
type part struct {
	n       int
	marked  bool     // whether it begins with a mark
	records [][]byte // without this mark
	whole   []byte   // all frames, that of this mark among them
	torn    int      // bytes behind them
}

// find reads the log on a disk.
func find(d *disk.Disk) (found, api.Code) {
	if d == nil {
		return found{}, api.ErrNil
	}
	if d.Down() {
		return found{}, api.ErrDown
	}
	numbers := segment.List(d.List()...)
	if len(numbers) == 0 {
		return found{last: part{n: 1}, none: true}, api.OK
	}
	parts := readParts(d, numbers...)
	older := numbers[:len(numbers)-len(parts)]
	if segment.Gap(numbers[len(older):]...) != 0 {
		return found{}, api.ErrBroken
	}
	records, ok := gather(parts...)
	if !ok {
		return found{}, api.ErrBroken
	}
	return found{records: records, older: older, last: parts[len(parts)-1]}, api.OK
}

// readParts reads the segments of the log, of those with some numbers in ascending order.
func readParts(d *disk.Disk, numbers ...int) []part {
	var parts []part
	// The way back ends at the last mark, so that the segments in front of it are not read.
	for _, n := range slices.Backward(numbers) {
		p := readPart(d, n)
		parts = append(parts, p)
		if p.marked {
			break
		}
	}
	slices.Reverse(parts)
	return parts
}

// readPart reads a segment that is there, of a disk that is up.
func readPart(d *disk.Disk, n int) part {
	b, _ := d.Read(file(n))
	records, size := frame.Split(b)
	marked := len(records) > 0 && isMark(records[0])
	if marked {
		records = records[1:]
	}
	return part{n, marked, records, b[:size], len(b) - size}
}

// gather returns the records of the segments of a log, or false if there is a mistake in one of them.
func gather(parts ...part) ([][]byte, bool) {
	var records [][]byte
	mistake := false
segments:
	for i, p := range parts {
		if p.torn > 0 && i < len(parts)-1 {
			mistake = true
			break segments
		}
		for _, record := range p.records {
			if isMark(record) {
				mistake = true
				break segments
			}
			records = append(records, record)
		}
	}
	if mistake {
		return nil, false
	}
	return records, true
}

func isMark(record []byte) bool { return len(record) == 0 }

// file returns the name of a segment.
func file(n int) string {
	name, _ := segment.Name(n)
	return name
}
