package trim

import (
	"slices"

	"clockwork/api"
	"clockwork/disk"
	"clockwork/segment"
)

// newFile is the name that the new segment has until its bytes are durable.
const newFile = "new"

// compaction is a new segment, which replaces all segments in front of it.
type compaction struct {
	disk  *disk.Disk
	n     int // the number of the new segment
	bytes []byte
}

// take tries the steps of a compaction in order, up to the first one that fails, and returns its code.
func (c compaction) take() api.Code {
	// The log becomes the new one at once, when the segment gets its number: from then on, the log begins at its mark, so
	// that the segments in front of it are not missed.
	steps := [...]func() api.Code{c.clear, c.create, c.fill, c.sync, c.number, c.removeOlder}
	for _, step := range steps {
		if code := step(); code != api.OK {
			return code
		}
	}
	return api.OK
}

// clear removes what a compaction that has not ended may have left.
func (c compaction) clear() api.Code {
	if !slices.Contains(c.disk.List(), newFile) {
		return api.OK
	}
	return c.disk.Remove(newFile)
}

func (c compaction) create() api.Code { return c.disk.Create(newFile) }

func (c compaction) fill() api.Code { return c.disk.Append(newFile, c.bytes) }

func (c compaction) sync() api.Code { return c.disk.Sync(newFile) }

func (c compaction) number() api.Code { return c.disk.Rename(newFile, file(c.n)) }

// removeOlder removes the segments in front of the new one.
func (c compaction) removeOlder() api.Code {
	for _, n := range segment.List(c.disk.List()...) {
		if n >= c.n {
			break
		}
		if code := c.disk.Remove(file(n)); code != api.OK {
			return code
		}
	}
	return api.OK
}
