package disk_test

import (
	"math"
	"math/rand/v2"
	"slices"
	"strings"
	"testing"

	"clockwork/api"
	"clockwork/disk"
)

// model is what a disk is by the words of the chapter: a row of files, and a mark at each byte that is durable.
type model struct {
	room, left int
	down       bool
	armed      bool
	files      []modelFile
}

type modelFile struct {
	name  string
	bytes []modelByte
}

type modelByte struct {
	b       byte
	durable bool
}

func (m *model) place(name string) int {
	return slices.IndexFunc(m.files, func(f modelFile) bool { return f.name == name })
}

func (m *model) used() int {
	n := 0
	for _, f := range m.files {
		n += len(f.bytes)
	}
	return n
}

func fine(name string) bool {
	return name != "" && len(name) <= 100 && strings.Trim(name, "abcdefghijklmnopqrstuvwxyz0123456789-.") == ""
}

// before returns the first codes that all changes share.
func (m *model) before(creates bool, names ...string) api.Code {
	if m.down {
		return api.ErrDown
	}
	if m.armed {
		if m.left--; m.left == 0 {
			m.armed, m.down = false, true
			return api.ErrDown
		}
	}
	for _, name := range names {
		if !fine(name) {
			return api.ErrName
		}
	}
	if !creates && m.place(names[0]) < 0 {
		return api.ErrName
	}
	return api.OK
}

func (m *model) create(name string) api.Code {
	code := m.before(true, name)
	if code == api.OK && m.place(name) >= 0 {
		code = api.ErrTwice
	}
	if code == api.OK {
		m.files = append(m.files, modelFile{name: name})
	}
	return code
}

func (m *model) append(name string, b []byte) api.Code {
	code := m.before(false, name)
	if code == api.OK && m.used()+len(b) > m.room {
		code = api.ErrFull
	}
	if code == api.OK {
		f := &m.files[m.place(name)]
		for _, x := range b {
			f.bytes = append(f.bytes, modelByte{b: x})
		}
	}
	return code
}

func (m *model) sync(name string) api.Code {
	code := m.before(false, name)
	if code == api.OK {
		bs := m.files[m.place(name)].bytes
		for i := range bs {
			bs[i].durable = true
		}
	}
	return code
}

func (m *model) rename(from, to string) api.Code {
	code := m.before(false, from, to)
	if code == api.OK && from != to {
		m.files = slices.DeleteFunc(m.files, func(f modelFile) bool { return f.name == to })
		m.files[m.place(from)].name = to
	}
	return code
}

func (m *model) remove(name string) api.Code {
	code := m.before(false, name)
	if code == api.OK {
		i := m.place(name)
		m.files = slices.Delete(m.files, i, i+1)
	}
	return code
}

func (m *model) names() []string {
	var names []string
	for _, f := range m.files {
		names = append(names, f.name)
	}
	slices.Sort(names)
	return names
}

func (m *model) crash(keep []int) {
	for i, name := range m.names() {
		left := 0
		if i < len(keep) {
			left = max(keep[i], 0)
		}
		f := &m.files[m.place(name)]
		f.bytes = slices.DeleteFunc(f.bytes, func(b modelByte) bool {
			if b.durable {
				return false
			}
			left--
			return left < 0
		})
		for j := range f.bytes {
			f.bytes[j].durable = true
		}
	}
	m.down, m.armed = false, false
}

// sameAsModel fails the test unless the disk looks like the model.
func sameAsModel(t *testing.T, d *disk.Disk, m *model, names []string) {
	t.Helper()
	if d.Down() != m.down || d.Used() != m.used() || !slices.Equal(d.List(), m.names()) {
		t.Fatalf("%v %d %q, want %v %d %q", d.Down(), d.Used(), d.List(), m.down, m.used(), m.names())
	}
	for _, name := range names {
		var want []byte
		code := api.OK
		i := m.place(name)
		switch {
		case m.down:
			code = api.ErrDown
		case i < 0:
			code = api.ErrName
		default:
			for _, b := range m.files[i].bytes {
				want = append(want, b.b)
			}
		}
		if b, got := d.Read(name); !slices.Equal(b, want) || got != code {
			t.Fatalf("Read(%q) is %v and %v, want %v and %v", name, b, got, want, code)
		}
	}
}

// step does one random thing with both, and returns both codes.
func step(r *rand.Rand, d *disk.Disk, m *model, names []string) (got, want api.Code) {
	name, other := names[r.IntN(len(names))], names[r.IntN(len(names))]
	b := make([]byte, r.IntN(12))
	for i := range b {
		b[i] = byte(r.Uint32())
	}
	switch r.IntN(20) {
	case 0, 1, 2, 3:
		return d.Create(name), m.create(name)
	case 4, 5, 6, 7, 8, 9:
		return d.Append(name, b), m.append(name, b)
	case 10, 11, 12:
		return d.Sync(name), m.sync(name)
	case 13, 14, 15:
		return d.Rename(name, other), m.rename(name, other)
	case 16:
		return d.Remove(name), m.remove(name)
	case 17, 18:
		n := r.IntN(30) - 5
		d.Arm(n)
		m.left, m.armed = n, n > 0
	default:
		keep := make([]int, r.IntN(9))
		for i := range keep {
			keep[i] = r.IntN(12) - 3
			if r.IntN(20) == 0 {
				keep[i] = []int{math.MinInt, math.MaxInt}[r.IntN(2)]
			}
		}
		d.Crash(keep...)
		m.crash(keep)
	}
	return api.OK, api.OK
}

// P5.1 to P5.6: a disk does what the words of the chapter say, whatever is done with it.
func TestModel(t *testing.T) {
	r := rand.New(rand.NewPCG(5, 6))
	names := []string{"a", "b", "c.0", "-", "z9", "c.00", strings.Repeat("n", 100), strings.Repeat("n", 101), "", "B"}
	seen := map[api.Code]int{}
	for range 300 {
		room := r.IntN(60) - 5
		d, m := disk.New(room), &model{room: max(room, 0)}
		for range 200 {
			got, want := step(r, d, m, names)
			if got != want {
				t.Fatalf("code %v, want %v", got, want)
			}
			seen[got]++
			sameAsModel(t, d, m, names)
		}
	}
	for _, code := range []api.Code{api.OK, api.ErrName, api.ErrTwice, api.ErrFull, api.ErrDown} {
		if seen[code] < 100 {
			t.Errorf("only %d times the code %v", seen[code], code)
		}
	}
}
