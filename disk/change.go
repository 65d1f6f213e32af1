package disk

import "clockwork/api"

// change is a change that is asked for.
type change struct {
	name string                 // of the file that it is about
	do   func(f *file) api.Code // its effect, unless it returns another code than api.OK; f is nil for no such file
}

// Create makes a file without bytes.
func (d *Disk) Create(name string) api.Code {
	return d.carryOut(change{name, func(f *file) api.Code {
		if f != nil {
			return api.ErrTwice
		}
		d.files[name] = &file{}
		return api.OK
	}})
}

// Append adds bytes at the end of a file.
func (d *Disk) Append(name string, b []byte) api.Code {
	return d.carryOut(onFile(name, func(f *file) api.Code {
		if len(b) > d.room-d.Used() {
			return api.ErrFull
		}
		f.bytes = append(f.bytes, b...)
		return api.OK
	}))
}

// Sync makes all bytes of a file durable.
func (d *Disk) Sync(name string) api.Code {
	return d.carryOut(onFile(name, func(f *file) api.Code {
		f.durable = len(f.bytes)
		return api.OK
	}))
}

// Rename gives a file another name, and removes another file that has this name.
func (d *Disk) Rename(from, to string) api.Code {
	return d.carryOut(onFile(from, func(f *file) api.Code {
		if !possible(to) {
			return api.ErrName
		}
		delete(d.files, from) // first, because to may be the same name
		d.files[to] = f
		return api.OK
	}))
}

// Remove removes a file.
func (d *Disk) Remove(name string) api.Code {
	return d.carryOut(onFile(name, func(f *file) api.Code {
		delete(d.files, name)
		return api.OK
	}))
}

// onFile returns the change of a file that must be there.
func onFile(name string, do func(f *file) api.Code) change {
	return change{name, func(f *file) api.Code {
		if f == nil {
			return api.ErrName
		}
		return do(f)
	}}
}

// carryOut makes a change, unless it is refused.
func (d *Disk) carryOut(c change) api.Code {
	if d == nil {
		return api.ErrNil
	}
	if d.fails() {
		return api.ErrDown
	}
	if !possible(c.name) {
		return api.ErrName
	}
	return c.do(d.files[c.name])
}

// fails reports whether a change fails because the disk is down, or goes down with it as planned.
func (d *Disk) fails() bool {
	if !d.down && d.planned > 0 {
		d.planned--
		d.down = d.planned == 0
	}
	return d.down
}

// possible reports whether a file can have a name.
func possible(name string) bool {
	if len(name) < 1 || len(name) > 100 {
		return false
	}
	for i := 0; i < len(name); i++ {
		c := name[i]
		letter, digit := 'a' <= c && c <= 'z', '0' <= c && c <= '9'
		if !letter && !digit && c != '-' && c != '.' {
			return false
		}
	}
	return true
}
