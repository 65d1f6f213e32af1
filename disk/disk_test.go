package disk_test

import (
	"bytes"
	"math"
	"slices"
	"strconv"
	"testing"

	"clockwork/api"
	"clockwork/disk"
)

// must fails the test unless every code is api.OK.
func must(t *testing.T, codes ...api.Code) {
	t.Helper()
	for i, code := range codes {
		if code != api.OK {
			t.Fatalf("change %d returned %v", i, code)
		}
	}
}

// refused fails the test if a change returned another code than the one that is expected.
func refused(t *testing.T, got, want api.Code) {
	t.Helper()
	if got != want {
		t.Errorf("code %v, want %v", got, want)
	}
}

// holds fails the test unless a disk that is up has exactly these files, which are given as names and bytes in turn.
func holds(t *testing.T, d *disk.Disk, want ...string) {
	t.Helper()
	var got []string
	used := 0
	for _, name := range d.List() {
		b, code := d.Read(name)
		if code != api.OK {
			t.Errorf("Read(%q) returned %v", name, code)
		}
		got = append(got, name, string(b))
		used += len(b)
	}
	if !slices.Equal(got, want) {
		t.Errorf("the disk has %q, want %q", got, want)
	}
	if d.Used() != used {
		t.Errorf("Used is %d, want %d", d.Used(), used)
	}
}

// filled returns a disk with room for 100 bytes, and with files whose bytes are not durable.
func filled(t *testing.T, files ...string) *disk.Disk {
	t.Helper()
	d := disk.New(100)
	for i := 0; i < len(files); i += 2 {
		must(t, d.Create(files[i]), d.Append(files[i], []byte(files[i+1])))
	}
	return d
}

// P5.1: a new disk has no files, is not down, and fails no change.
func TestNew(t *testing.T) {
	for _, room := range []int{math.MinInt, -1, 0, 1, 10, math.MaxInt} {
		d := disk.New(room)
		holds(t, d)
		if d.Down() {
			t.Errorf("New(%d) is down", room)
		}
		must(t, d.Create("a"), d.Append("a", nil), d.Sync("a"), d.Rename("a", "b"), d.Remove("b"))
	}
}

// P5.1, P5.2: a disk has room for as many bytes as were asked for, and none if the number is negative.
func TestRoom(t *testing.T) {
	for _, test := range []struct{ room, fits int }{{math.MinInt, 0}, {-5, 0}, {-1, 0}, {0, 0}, {1, 1}, {2, 2}, {300, 300}} {
		d := disk.New(test.room)
		must(t, d.Create("a"))
		refused(t, d.Append("a", make([]byte, test.fits+1)), api.ErrFull)
		holds(t, d, "a", "")
		must(t, d.Append("a", make([]byte, test.fits)), d.Append("a", nil), d.Append("a", []byte{}))
		refused(t, d.Append("a", []byte{1}), api.ErrFull)
		if d.Used() != test.fits {
			t.Errorf("New(%d) has %d bytes, want %d", test.room, d.Used(), test.fits)
		}
	}
	d := disk.New(math.MaxInt)
	must(t, d.Create("a"), d.Append("a", make([]byte, 1000)), d.Append("a", make([]byte, 1000)))
	if d.Used() != 2000 {
		t.Error(d.Used())
	}
}

// P5.3: Read returns the bytes of a file, or the code and nothing.
func TestRead(t *testing.T) {
	d := filled(t, "a", "one", "b", "")
	for _, test := range []struct {
		name, want string
		code       api.Code
	}{
		{"a", "one", api.OK}, {"b", "", api.OK}, {"c", "", api.ErrName}, {"", "", api.ErrName}, {"A", "", api.ErrName},
	} {
		if b, code := d.Read(test.name); string(b) != test.want || code != test.code {
			t.Errorf("Read(%q) is %q and %v", test.name, b, code)
		}
	}
	d.Arm(1)
	refused(t, d.Sync("a"), api.ErrDown)
	for _, name := range []string{"a", "b", "c", "", "A"} {
		if b, code := d.Read(name); len(b) != 0 || code != api.ErrDown {
			t.Errorf("Read(%q) of a disk that is down is %q and %v", name, b, code)
		}
	}
}

// P5.3: List is in ascending order of bytes, whatever the order in which files are made, and counts files without bytes.
func TestList(t *testing.T) {
	want := []string{"-", "--", "-a", ".", "..", "0", "00", "09", "1", "10", "2", "9", "a", "a-", "a.", "a0", "aa", "ab", "b", "z"}
	d := disk.New(100)
	for i := range want {
		must(t, d.Create(want[(i*7+3)%len(want)]))
	}
	if got := d.List(); !slices.Equal(got, want) {
		t.Errorf("%q, want %q", got, want)
	}
	must(t, d.Remove("a"), d.Rename("0", "m"))
	want = slices.DeleteFunc(want, func(s string) bool { return s == "a" || s == "0" })
	want = slices.Insert(want, slices.Index(want, "z"), "m")
	if got := d.List(); !slices.Equal(got, want) {
		t.Errorf("%q, want %q", got, want)
	}
}

// P5.3: Used counts all bytes, durable or not.
func TestUsed(t *testing.T) {
	d := filled(t, "a", "12345", "b", "123", "c", "")
	if d.Used() != 8 {
		t.Error(d.Used())
	}
	must(t, d.Sync("a"), d.Append("a", []byte{6}))
	if d.Used() != 9 {
		t.Error(d.Used())
	}
	must(t, d.Remove("b"), d.Rename("a", "c"))
	if d.Used() != 6 {
		t.Error(d.Used())
	}
}

// P5.3: List and Used answer also if the disk is down.
func TestLookAtDownDisk(t *testing.T) {
	d := filled(t, "b", "12", "a", "345")
	must(t, d.Sync("b"))
	d.Arm(1)
	refused(t, d.Remove("a"), api.ErrDown)
	if !d.Down() || !slices.Equal(d.List(), []string{"a", "b"}) || d.Used() != 5 {
		t.Error(d.Down(), d.List(), d.Used())
	}
}

// P5.3, P5.4: Read, List, Used and Down are no changes.
func TestLookingIsNoChange(t *testing.T) {
	d := filled(t, "a", "1")
	d.Arm(2)
	for range 5 {
		d.Read("a")
		d.Read("x")
		d.List()
		d.Used()
		d.Down()
	}
	must(t, d.Sync("a"))
	refused(t, d.Sync("a"), api.ErrDown)
}

// P5.4: the n-th change from now on fails, whatever its own code would be, and Down tells.
func TestArm(t *testing.T) {
	for _, n := range []int{1, 2, 3, 50} {
		d := filled(t, "a", "1")
		d.Arm(n)
		for i := 1; i < n; i++ {
			if i%2 == 0 {
				refused(t, d.Sync("none"), api.ErrName)
			} else {
				must(t, d.Sync("a"))
			}
			if d.Down() {
				t.Fatalf("Arm(%d): down after change %d", n, i)
			}
		}
		refused(t, d.Sync("a"), api.ErrDown)
		if !d.Down() {
			t.Errorf("Arm(%d): the disk is not down", n)
		}
	}
	d := filled(t, "a", "1")
	d.Arm(math.MaxInt)
	for range 1000 {
		must(t, d.Sync("a"))
	}
}

// P5.4: Arm takes the place of an earlier plan, and takes it back if n is less than 1.
func TestArmAgain(t *testing.T) {
	for _, n := range []int{0, -1, math.MinInt} {
		d := filled(t, "a", "1")
		d.Arm(n)
		must(t, d.Sync("a"))
		d.Arm(1)
		d.Arm(n)
		for range 10 {
			must(t, d.Sync("a"))
		}
	}
	d := filled(t, "a", "1")
	d.Arm(5)
	must(t, d.Sync("a"))
	d.Arm(2)
	must(t, d.Sync("a"))
	d.Arm(3)
	must(t, d.Sync("a"), d.Sync("a"))
	refused(t, d.Sync("a"), api.ErrDown)
}

// P5.2, P5.4: once the planned change has failed, nothing is planned any more; Arm starts no disk that is down.
func TestArmDownDisk(t *testing.T) {
	d := filled(t, "a", "1")
	d.Arm(1)
	refused(t, d.Sync("a"), api.ErrDown)
	d.Arm(0)
	refused(t, d.Sync("a"), api.ErrDown)
	d.Arm(2)
	for range 5 {
		refused(t, d.Sync("a"), api.ErrDown)
	}
	d.Crash(1)
	for range 5 {
		must(t, d.Sync("a"))
	}
}

// P5.5: Crash keeps the durable bytes, and as many after them as the number of the file says.
func TestCrash(t *testing.T) {
	for _, test := range []struct {
		keep []int
		want [3]string
	}{
		{nil, [3]string{"12", "", "90"}},
		{[]int{0}, [3]string{"12", "", "90"}},
		{[]int{0, 0, 0}, [3]string{"12", "", "90"}},
		{[]int{1}, [3]string{"123", "", "90"}},
		{[]int{2}, [3]string{"1234", "", "90"}},
		{[]int{3, 1}, [3]string{"12345", "6", "90"}},
		{[]int{4, 3, 1}, [3]string{"12345", "678", "90"}},
		{[]int{-1, 2, -1}, [3]string{"12", "67", "90"}},
		{[]int{math.MinInt, math.MinInt, math.MinInt}, [3]string{"12", "", "90"}},
		{[]int{math.MaxInt, math.MaxInt, math.MaxInt}, [3]string{"12345", "678", "90"}},
		{[]int{0, 1, 0, 5, 7, -1}, [3]string{"12", "6", "90"}},
	} {
		d := filled(t, "c", "90", "b", "678", "a", "12")
		must(t, d.Sync("c"), d.Sync("a"), d.Append("a", []byte("345")))
		kept := slices.Clone(test.keep)
		d.Crash(test.keep...)
		holds(t, d, "a", test.want[0], "b", test.want[1], "c", test.want[2])
		if !slices.Equal(kept, test.keep) {
			t.Errorf("Crash changed its numbers to %v", test.keep)
		}
	}
}

// P5.5: the example of the chapter.
func TestExample(t *testing.T) {
	d := filled(t, "a", "12345")
	d.Crash(2)
	holds(t, d, "a", "12")
}

// P5.5: what Crash keeps is durable, and what comes after it is not.
func TestCrashMakesDurable(t *testing.T) {
	d := filled(t, "a", "12345", "b", "678")
	d.Crash(3, 1)
	d.Crash()
	holds(t, d, "a", "123", "b", "6")
	must(t, d.Append("a", []byte("xyz")))
	d.Crash(1)
	holds(t, d, "a", "123x", "b", "6")
	must(t, d.Append("a", []byte("uv")), d.Append("b", []byte("w")))
	d.Crash()
	holds(t, d, "a", "123x", "b", "6")
}

// P5.5: Crash starts a disk that is down, takes a plan back, and frees the room of the bytes that it does not keep.
func TestCrashStarts(t *testing.T) {
	d := disk.New(5)
	must(t, d.Create("a"), d.Append("a", []byte("12345")))
	d.Arm(1)
	refused(t, d.Sync("a"), api.ErrDown)
	d.Crash(2)
	if d.Down() {
		t.Error("the disk is down after Crash")
	}
	must(t, d.Append("a", []byte("xyz")))
	refused(t, d.Append("a", []byte("0")), api.ErrFull)
	holds(t, d, "a", "12xyz")
	d.Arm(1)
	d.Crash(1)
	must(t, d.Sync("a"))
	holds(t, d, "a", "12x")
	none := disk.New(5)
	none.Crash(1, 2, 3)
	holds(t, none)
}

// P5.6: a file whose bytes are durable survives every crash.
func TestDurableSurvives(t *testing.T) {
	d := filled(t, "a", "123", "b", "45")
	must(t, d.Sync("a"))
	for n := -3; n < 4; n++ {
		d.Arm(1)
		refused(t, d.Remove("a"), api.ErrDown)
		d.Crash(n)
		if b, code := d.Read("a"); string(b) != "123" || code != api.OK {
			t.Fatalf("after Crash(%d): %q and %v", n, b, code)
		}
	}
}

// P5.6: all files together never have more bytes than there is room.
func TestNeverTooFull(t *testing.T) {
	d := disk.New(20)
	for i := range 2000 {
		name := strconv.Itoa(i % 7)
		switch {
		case i%5 == 0:
			d.Create(name)
		case i%31 == 0:
			d.Remove(name)
		case i%37 == 0:
			d.Rename(name, strconv.Itoa(i%3))
		case i%41 == 0:
			d.Crash(i%4, 1, i%2)
		default:
			d.Append(name, make([]byte, i%9))
		}
		if d.Used() > 20 {
			t.Fatalf("%d bytes after step %d", d.Used(), i)
		}
	}
}

// Functions list: methods of a nil disk return api.ErrNil, or do nothing and return zero values.
func TestNil(t *testing.T) {
	var d *disk.Disk
	for i, code := range []api.Code{
		d.Create("a"), d.Append("a", []byte{1}), d.Sync("a"), d.Rename("a", "b"), d.Remove("a"),
		d.Create(""), d.Append("", nil), d.Sync(""), d.Rename("", ""), d.Remove(""),
	} {
		if code != api.ErrNil {
			t.Errorf("change %d returned %v", i, code)
		}
	}
	if b, code := d.Read("a"); len(b) != 0 || code != api.ErrNil {
		t.Error(b, code)
	}
	d.Arm(1)
	d.Crash()
	d.Crash(1, 2)
	if d.Down() || d.Used() != 0 || len(d.List()) != 0 {
		t.Error("a nil disk has something")
	}
}

// Rule 4: what is appended may be modified afterwards, and is not modified itself.
func TestAppendKeepsArgument(t *testing.T) {
	d := filled(t, "a", "", "b", "")
	b := []byte("123456")
	must(t, d.Append("a", b[:3]), d.Append("b", b[:2]), d.Append("a", []byte("xy")))
	if string(b) != "123456" {
		t.Errorf("the argument is %q", b)
	}
	clear(b)
	holds(t, d, "a", "123xy", "b", "12")
	own, _ := d.Read("a")
	must(t, d.Append("a", own))
	holds(t, d, "a", "123xy123xy", "b", "12")
}

// Rule 4: a result shares no memory with the disk or with another result.
func TestResultsAreNew(t *testing.T) {
	d := filled(t, "a", "123", "b", "45")
	first, _ := d.Read("a")
	second, _ := d.Read("a")
	names := d.List()
	clear(first)
	_ = append(first[:1], bytes.Repeat([]byte{9}, 50)...)
	_ = append(second, 7)
	clear(names)
	if string(second) != "123" {
		t.Errorf("the other result is %q", second)
	}
	must(t, d.Append("a", []byte("4")))
	holds(t, d, "a", "1234", "b", "45")
	d.Crash(2)
	if string(second) != "123" {
		t.Errorf("a crash changed a result to %q", second)
	}
	must(t, d.Append("a", []byte("z")))
	if string(second) != "123" {
		t.Errorf("an append changed a result to %q", second)
	}
}

// P2: disks are independent of each other.
func TestIndependent(t *testing.T) {
	d, e := filled(t, "a", "1"), filled(t, "a", "2")
	must(t, d.Append("a", []byte("x")), e.Create("b"))
	e.Arm(1)
	holds(t, d, "a", "1x")
	must(t, d.Sync("a"))
	refused(t, e.Sync("a"), api.ErrDown)
	if d.Down() {
		t.Error("both disks are down")
	}
	d.Crash()
	holds(t, d, "a", "1x")
	if !e.Down() {
		t.Error("both disks were started")
	}
}
