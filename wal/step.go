package wal

import (
	"clockwork/api"
	"clockwork/segment"
)

// step is a change of the disk, which may fail.
type step struct {
	do   func() api.Code
	then place // where the log goes on if it does not fail
}

// take tries steps in order, up to the first one that fails, and returns its code.
func (l *Log) take(steps ...step) api.Code {
	for _, s := range steps {
		if code := s.do(); code != api.OK {
			return code
		}
		l.place = s.then
	}
	return api.OK
}

// appending adds the frame of a record to the current segment.
func (l *Log) appending(b []byte) step {
	file := l.file()
	return step{
		do:   func() api.Code { return l.disk.Append(file, b) },
		then: place{n: l.n, size: l.size + len(b), waiting: l.waiting + 1},
	}
}

// syncing makes the current segment durable.
func (l *Log) syncing(then place) step {
	file := l.file()
	return step{
		do:   func() api.Code { return l.disk.Sync(file) },
		then: then,
	}
}

// creating begins a segment.
func (l *Log) creating(n int) step {
	begun := place{n: n}
	file := begun.file()
	return step{
		do:   func() api.Code { return l.disk.Create(file) },
		then: begun,
	}
}

// file returns the name of the current segment. For the number of no segment, it is empty, and a disk refuses it.
func (p place) file() string {
	name, _ := segment.Name(p.n)
	return name
}
