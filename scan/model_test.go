package scan_test

import (
	"fmt"
	"hash/crc32"
	"maps"
	"math/rand/v2"
	"slices"
	"strings"
	"testing"

	"clockwork/api"
	"clockwork/disk"
)

// split divides bytes into records and what is behind their frames, by the words of chapter 6.
func split(b string) (records []string, rest string) {
	for len(b) >= 8 {
		n := int(b[0]) | int(b[1])<<8 | int(b[2])<<16 | int(b[3])<<24
		if n > 1<<20 || n+8 > len(b) {
			break
		}
		c := crc32.Checksum([]byte(b[:n+4]), crc32.MakeTable(crc32.Castagnoli))
		if b[n+4:n+8] != string([]byte{byte(c), byte(c >> 8), byte(c >> 16), byte(c >> 24)}) {
			break
		}
		records = append(records, b[4:n+4])
		b = b[n+8:]
	}
	return records, b
}

// model is the log on a disk by the words of the chapter: its segments by their numbers, and which ones are its ends.
type model struct {
	segments    map[int]string
	first, last int
}

func newModel(t *testing.T, d *disk.Disk) *model {
	t.Helper()
	m := &model{segments: map[int]string{}}
	for _, file := range d.List() {
		n := 0
		if _, err := fmt.Sscanf(file, "log-%d", &n); err != nil || n < 1 || n > last || name(n) != file {
			continue
		}
		b, code := d.Read(file)
		must(t, code)
		m.segments[n] = string(b)
	}
	least := last
	for n, b := range m.segments {
		m.last, least = max(m.last, n), min(least, n)
		if strings.HasPrefix(b, mark) {
			m.first = max(m.first, n)
		}
	}
	if m.first == 0 {
		m.first = least
	}
	return m
}

// look returns what Look and Torn do.
func (m *model) look() (all []string, code api.Code, torn int) {
	if len(m.segments) == 0 {
		return nil, api.OK, 0
	}
	for n := m.first; n <= m.last; n++ {
		b, ok := m.segments[n]
		if !ok {
			return nil, api.ErrBroken, 0
		}
		records, rest := split(b)
		if n < m.last && rest != "" {
			return nil, api.ErrBroken, 0
		}
		if n == m.first && len(records) > 0 && records[0] == "" {
			records = records[1:]
		}
		if slices.Contains(records, "") {
			return nil, api.ErrBroken, 0
		}
		all = append(all, records...)
		torn = len(rest)
	}
	return all, api.OK, torn
}

// open makes the changes that Open does, and returns the first code that is not api.OK.
func (m *model) open(d *disk.Disk) api.Code {
	_, code, torn := m.look()
	do := func(change func() api.Code) {
		if code == api.OK {
			code = change()
		}
	}
	for _, file := range []string{"cut", "new"} {
		if slices.Contains(d.List(), file) {
			do(func() api.Code { return d.Remove(file) })
		}
	}
	if len(m.segments) == 0 {
		do(func() api.Code { return d.Create(name(1)) })
		return code
	}
	b := m.segments[m.last]
	if torn > 0 {
		do(func() api.Code { return d.Create("cut") })
		do(func() api.Code { return d.Append("cut", []byte(b[:len(b)-torn])) })
		do(func() api.Code { return d.Sync("cut") })
		do(func() api.Code { return d.Rename("cut", name(m.last)) })
	}
	for _, n := range slices.Sorted(maps.Keys(m.segments)) {
		if n < m.first {
			do(func() api.Code { return d.Remove(name(n)) })
		}
	}
	do(func() api.Code { return d.Sync(name(m.last)) })
	return code
}

// someBytes returns bytes of a segment, with mistakes now and then.
func someBytes(r *rand.Rand) string {
	var records []string
	if r.IntN(6) == 0 {
		records = append(records, "")
	}
	for range r.IntN(4) {
		records = append(records, strings.Repeat(string(rune('a'+r.IntN(26))), 1+r.IntN(9)))
	}
	if r.IntN(25) == 0 {
		records = append(records, "", "y")
	}
	b := []byte(frames(records...))
	switch r.IntN(12) {
	case 0:
		b = b[:r.IntN(len(b)+1)]
	case 1:
		for range r.IntN(12) {
			b = append(b, byte(r.Uint32()))
		}
	case 2:
		if len(b) > 0 {
			b[r.IntN(len(b))] ^= 1 << r.IntN(8)
		}
	case 3:
		b = append(b, make([]byte, r.IntN(12))...)
	}
	return string(b)
}

// pair is two disks with the same files.
type pair struct{ d, e *disk.Disk }

// newPair returns disks with random files, of which not all bytes are durable.
func newPair(r *rand.Rand) pair {
	room := 1000
	if r.IntN(2) == 0 {
		room = r.IntN(150)
	}
	p := pair{disk.New(room), disk.New(room)}
	put := func(file, b string, durable bool) {
		for _, d := range []*disk.Disk{p.d, p.e} {
			d.Create(file)
			d.Append(file, []byte(b))
			if durable {
				d.Sync(file)
			}
		}
	}
	n := []int{0, 1, 1, 5, last - 3}[r.IntN(5)]
	for i := range r.IntN(6) {
		if r.IntN(15) > 0 {
			put(name(n+i), someBytes(r), r.IntN(3) > 0)
		}
	}
	for _, file := range []string{"cut", "new", "other"} {
		if r.IntN(3) == 0 {
			put(file, someBytes(r), r.IntN(2) > 0)
		}
	}
	return p
}

// arm plans a failure, or none.
func (p pair) arm(r *rand.Rand) {
	if r.IntN(2) == 0 {
		n := 1 + r.IntN(11)
		p.d.Arm(n)
		p.e.Arm(n)
	}
}

// crash keeps some bytes of both disks that are not durable.
func (p pair) crash(r *rand.Rand) {
	var carry []int
	for range p.d.List() {
		carry = append(carry, r.IntN(40)-10)
	}
	p.d.Crash(carry...)
	p.e.Crash(carry...)
}

// open opens the log on one disk, and compares it with the model on the other disk.
func (p pair) open(t *testing.T, m *model) api.Code {
	t.Helper()
	records, code, torn := m.look()
	if code == api.OK {
		looks(t, p.d, torn, records...)
	} else {
		fails(t, p.d, code)
	}
	n, size := 1, 0
	if len(m.segments) > 0 {
		n, size = m.last, len(m.segments[m.last])-torn
	}
	if code = m.open(p.e); code == api.OK {
		opens(t, p.d, 100, n, size, records...)
	} else {
		openFails(t, p.d, code)
	}
	if p.d.Down() != p.e.Down() {
		t.Errorf("down: %v, want %v", p.d.Down(), p.e.Down())
	}
	return code
}

// P9.1 to P9.3, P4: any files, opened with failures and crashes in between.
func TestModel(t *testing.T) {
	r := rand.New(rand.NewPCG(17, 18))
	seen := map[api.Code]int{}
	for range 20000 {
		p := newPair(r)
		before := files(t, p.d)
		p.arm(r)
		seen[p.open(t, newModel(t, p.e))]++
		p.crash(r)
		holds(t, p.d, files(t, p.e)...)
		code := p.open(t, newModel(t, p.e))
		holds(t, p.d, files(t, p.e)...)
		if code == api.OK {
			looks(t, p.d, 0, texts(look(t, p.d))...)
		}
		if t.Failed() {
			t.Fatalf("files %q", before)
		}
	}
	for _, code := range []api.Code{api.OK, api.ErrFull, api.ErrDown, api.ErrBroken} {
		if seen[code] < 100 {
			t.Errorf("only %d times the code %v", seen[code], code)
		}
	}
}

// P4: any bytes in any files: recovery ends with a code or with a log.
func FuzzAnyBytes(f *testing.F) {
	f.Add("", "", "", 0)
	f.Add(frames("a"), frames("", "b"), frames("c")+"torn", 3)
	f.Add(frames("", "a"), frames("b", ""), "", 1)
	f.Fuzz(func(t *testing.T, a, b, c string, n int) {
		p := pair{disk.New(1 << 20), disk.New(1 << 20)}
		for _, d := range []*disk.Disk{p.d, p.e} {
			for i, bytes := range []string{a, b, c} {
				d.Create(name(last - 3 + i + n&1))
				d.Append(name(last-3+i+n&1), []byte(bytes))
			}
			d.Create("cut")
			d.Append("cut", []byte(a))
			d.Arm(n >> 1 & 15)
		}
		p.open(t, newModel(t, p.e))
		p.d.Crash(n, n)
		p.e.Crash(n, n)
		p.open(t, newModel(t, p.e))
		holds(t, p.d, files(t, p.e)...)
	})
}
