package scan

import (
	"slices"

	"clockwork/api"
	"clockwork/disk"
)

// The files that are on a disk only while a log is opened or compacted, or if this has not ended.
const (
	cutFile = "cut" // the last segment without what is torn
	newFile = "new" // a segment that begins with a mark
)

// step is a change of a disk, which may fail.
type step func() api.Code

// take tries steps in order, up to the first one that fails, and returns its code.
func take(steps ...step) api.Code {
	for _, s := range steps {
		if code := s(); code != api.OK {
			return code
		}
	}
	return api.OK
}

// repairs returns the changes after which a log can go on.
func (f found) repairs(d *disk.Disk) []step {
	files := d.List()
	var steps []step
	for _, name := range []string{cutFile, newFile} {
		if slices.Contains(files, name) {
			steps = append(steps, removing(d, name))
		}
	}
	last := file(f.last.n)
	if f.none {
		return append(steps, func() api.Code { return d.Create(last) })
	}
	if f.last.torn > 0 {
		steps = append(steps, cutting(d, last, f.last.whole)...)
	}
	for _, n := range f.older {
		steps = append(steps, removing(d, file(n)))
	}
	return append(steps, func() api.Code { return d.Sync(last) })
}

// removing removes a file.
func removing(d *disk.Disk, name string) step {
	return func() api.Code { return d.Remove(name) }
}

// cutting replaces the bytes of a file. They are durable before they get its name, so that a crash leaves the bytes that
// it had, or these.
func cutting(d *disk.Disk, name string, b []byte) []step {
	return []step{
		func() api.Code { return d.Create(cutFile) },
		func() api.Code { return d.Append(cutFile, b) },
		func() api.Code { return d.Sync(cutFile) },
		func() api.Code { return d.Rename(cutFile, name) },
	}
}
