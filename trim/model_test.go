package trim_test

import (
	"math/rand/v2"
	"slices"
	"strings"
	"testing"

	"clockwork/api"
	"clockwork/disk"
	"clockwork/scan"
	"clockwork/trim"
	"clockwork/wal"
)

// pair is two disks with the same files, and a log on each of them.
type pair struct {
	d, e *disk.Disk
	l, m *wal.Log
}

// slowCompact makes the changes of a disk by the words of the chapter, and returns the number of the new segment, and
// the number of its bytes.
func slowCompact(d *disk.Disk, segment int, records ...string) (int, int, api.Code) {
	for _, r := range records {
		if r == "" {
			return 0, 0, api.ErrRange
		}
	}
	if segment == last {
		return 0, 0, api.ErrRange
	}
	for _, r := range records {
		if len(r) > long {
			return 0, 0, api.ErrLong
		}
	}
	code := api.OK
	do := func(change func() api.Code) {
		if code == api.OK {
			code = change()
		}
	}
	b := mark + frames(records...)
	if slices.Contains(d.List(), "new") {
		do(func() api.Code { return d.Remove("new") })
	}
	do(func() api.Code { return d.Create("new") })
	do(func() api.Code { return d.Append("new", []byte(b)) })
	do(func() api.Code { return d.Sync("new") })
	do(func() api.Code { return d.Rename("new", name(segment+1)) })
	for n := range segment + 1 {
		// No log of this test is longer.
		if n > segment-30 && slices.Contains(d.List(), name(n)) {
			do(func() api.Code { return d.Remove(name(n)) })
		}
	}
	if code != api.OK {
		return 0, 0, code
	}
	return segment + 1, len(b), api.OK
}

// newPair returns disks with the files of a log.
func newPair(t *testing.T, r *rand.Rand) *pair {
	t.Helper()
	room := []int{0, 50, 100, 200, 1000}[r.IntN(5)]
	p := &pair{d: disk.New(room), e: disk.New(room)}
	n := []int{1, 7, 99, 5000}[r.IntN(4)]
	for i := range r.IntN(5) {
		b := frames(strings.Repeat("x", 1+r.IntN(9)))
		if r.IntN(5) == 0 {
			b = mark + b
		}
		for _, d := range []*disk.Disk{p.d, p.e} {
			must(t, d.Create(name(n+i)))
			d.Append(name(n+i), []byte(b))
			must(t, d.Sync(name(n+i)))
		}
	}
	p.open(t, r)
	return p
}

// open opens both logs.
func (p *pair) open(t *testing.T, r *rand.Rand) {
	t.Helper()
	most := 9 + r.IntN(50)
	p.l, p.m = open(t, p.d, most), open(t, p.e, most)
}

// change changes both disks or both logs in some way.
func (p *pair) change(t *testing.T, r *rand.Rand) {
	t.Helper()
	switch k := r.IntN(9); k {
	case 0, 1, 2, 3:
		b := make([]byte, 1+r.IntN(12))
		p.same(t, p.l.Put(b), p.m.Put(b))
	case 4:
		p.same(t, p.l.Sync(), p.m.Sync())
	case 5, 6:
		file := []string{"new", "cut", "other"}[r.IntN(3)]
		p.same(t, p.d.Create(file), p.e.Create(file))
		b := make([]byte, r.IntN(20))
		p.same(t, p.d.Append(file, b), p.e.Append(file, b))
		if k == 6 {
			p.same(t, p.d.Sync(file), p.e.Sync(file))
		}
	case 7:
		n := r.IntN(16)
		p.d.Arm(n)
		p.e.Arm(n)
	case 8:
		p.crash(t, r)
	}
}

// same fails the test unless two codes are the same.
func (p *pair) same(t *testing.T, got, want api.Code) {
	t.Helper()
	if got != want {
		t.Fatalf("the code is %v, want %v", got, want)
	}
}

// crash keeps some bytes of both disks, and opens both logs.
func (p *pair) crash(t *testing.T, r *rand.Rand) {
	t.Helper()
	var carry []int
	for range p.d.List() {
		carry = append(carry, r.IntN(40)-10)
	}
	p.d.Crash(carry...)
	p.e.Crash(carry...)
	holds(t, p.d, files(t, p.e)...)
	if _, _, code := scan.Open(p.d, 20); code != api.OK {
		// There is no room for what is not torn: the disks begin again.
		*p = pair{d: disk.New(100), e: disk.New(100)}
	} else if _, _, code := scan.Open(p.e, 20); code != api.OK {
		t.Fatalf("Open returned %v", code)
	}
	p.open(t, r)
}

// compact compacts the log on one disk, and compares it with the model on the other disk. It returns the code.
func (p *pair) compact(t *testing.T, r *rand.Rand) api.Code {
	t.Helper()
	var records []string
	for range r.IntN(5) {
		records = append(records, strings.Repeat("y", 1+r.IntN(12)))
	}
	if r.IntN(20) == 0 {
		records = slices.Insert(records, r.IntN(len(records)+1), "")
	}
	if r.IntN(200) == 0 {
		records = slices.Insert(records, r.IntN(len(records)+1), strings.Repeat("y", long+1))
	}
	most := 9 + r.IntN(50)
	used, worth := p.used(t), trim.Worth(p.d, bytesOf(records...)...)
	if want := used > len(mark+frames(records...)); worth != want {
		t.Fatalf("Worth is %v, want %v", worth, want)
	}
	n, size, want := slowCompact(p.e, p.m.Segment(), records...)
	l, code := trim.Compact(p.d, p.l, most, bytesOf(records...)...)
	p.same(t, code, want)
	if code != api.OK {
		if l != nil {
			t.Fatalf("Compact returned a log and %v", code)
		}
		return code
	}
	isAt(t, l, n, size)
	looks(t, p.d, records...)
	p.l, p.m = l, wal.New(p.e, most, n, size)
	return code
}

// used returns the number of bytes of the segments of a disk, 0 if it is down.
func (p *pair) used(t *testing.T) int {
	t.Helper()
	n := 0
	if !p.d.Down() {
		all := files(t, p.d)
		for i := 0; i < len(all); i += 2 {
			if strings.HasPrefix(all[i], "log-") {
				n += len(all[i+1])
			}
		}
	}
	return n
}

// P10.1 to P10.3: logs that are compacted, with changes, failures and crashes in between.
func TestModel(t *testing.T) {
	r := rand.New(rand.NewPCG(27, 28))
	seen := map[api.Code]int{}
	for range 3000 {
		p := newPair(t, r)
		for range 1 + r.IntN(40) {
			if r.IntN(6) == 0 {
				seen[p.compact(t, r)]++
			} else {
				p.change(t, r)
			}
			if p.d.Down() != p.e.Down() || !slices.Equal(p.d.List(), p.e.List()) {
				t.Fatalf("down %v, %v, files %q and %q", p.d.Down(), p.e.Down(), p.d.List(), p.e.List())
			}
			if p.d.Down() {
				p.crash(t, r)
			}
			holds(t, p.d, files(t, p.e)...)
			if t.Failed() {
				return
			}
		}
	}
	for _, code := range []api.Code{api.OK, api.ErrRange, api.ErrLong, api.ErrFull, api.ErrDown} {
		if seen[code] < 20 {
			t.Errorf("only %d times the code %v", seen[code], code)
		}
	}
}
