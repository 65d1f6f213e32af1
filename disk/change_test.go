package disk_test

import (
	"strings"
	"testing"

	"clockwork/api"
	"clockwork/disk"
)

// nameOf returns a name with a byte, also if it is no byte of a text.
func nameOf(b byte) string { return string([]byte{b}) }

// badNames returns what is the name of no file.
func badNames() []string {
	bad := []string{
		"", strings.Repeat("a", 101), strings.Repeat("a", 1000), strings.Repeat("é", 50), "A", "aB", "Ba", "a/b", "/", "a b",
		" a", "a ", "a_b", "a\x00", "é", "aé", "ａ", "a:b", "a,b", "a\n", "\xFF", strings.Repeat("a", 99) + "Z",
	}
	for b := range 256 {
		if !strings.Contains("abcdefghijklmnopqrstuvwxyz0123456789-.", nameOf(byte(b))) {
			bad = append(bad, nameOf(byte(b)), "a"+nameOf(byte(b)), nameOf(byte(b))+"a")
		}
	}
	return bad
}

// goodNames returns names of files, with each byte that is allowed.
func goodNames() []string {
	const allowed = "abcdefghijklmnopqrstuvwxyz0123456789-."
	good := []string{allowed, strings.Repeat("a", 99), strings.Repeat("z", 100), strings.Repeat(".", 100), "..", "-.-", "00"}
	for _, c := range allowed {
		good = append(good, string(c), string(c)+"a", "a"+string(c))
	}
	return good
}

// P5.2: names of 1 to 100 small letters, digits, hyphens and dots are names of files, each of its own.
func TestGoodNames(t *testing.T) {
	for _, name := range goodNames() {
		d := filled(t, "other", "12")
		must(t, d.Create(name), d.Append(name, []byte("x")), d.Sync(name))
		if b, code := d.Read(name); string(b) != "x" || code != api.OK {
			t.Errorf("Read(%q) is %q and %v", name, b, code)
		}
		must(t, d.Rename("other", name), d.Rename(name, "new"), d.Rename("new", name))
		holds(t, d, name, "12")
		must(t, d.Remove(name))
		holds(t, d)
	}
}

// P5.2: what is the name of no file is refused by each change, without an effect.
func TestBadNames(t *testing.T) {
	d := filled(t, "a", "12")
	for _, name := range badNames() {
		codes := []api.Code{
			d.Create(name), d.Append(name, nil), d.Append(name, []byte("x")), d.Append(name, make([]byte, 101)), d.Sync(name),
			d.Rename(name, "b"), d.Rename("a", name), d.Rename(name, name), d.Rename("x", name), d.Remove(name),
		}
		for i, code := range codes {
			if code != api.ErrName {
				t.Errorf("name %q: change %d returned %v", name, i, code)
			}
		}
		if b, code := d.Read(name); len(b) != 0 || code != api.ErrName {
			t.Errorf("Read(%q) is %q and %v", name, b, code)
		}
	}
	holds(t, d, "a", "12")
}

// P5.2: names without a file are refused by each change but Create, without an effect.
func TestNoFile(t *testing.T) {
	d := filled(t, "a", "12", "c", "3")
	for _, name := range []string{"b", "aa", ".", "-", strings.Repeat("a", 100)} {
		codes := []api.Code{
			d.Append(name, nil), d.Append(name, []byte("x")), d.Append(name, make([]byte, 101)), d.Sync(name),
			d.Rename(name, "a"), d.Rename(name, "d"), d.Rename(name, name), d.Remove(name),
		}
		for i, code := range codes {
			if code != api.ErrName {
				t.Errorf("name %q: change %d returned %v", name, i, code)
			}
		}
	}
	holds(t, d, "a", "12", "c", "3")
}

// P5.2: Create makes a file without bytes, and refuses a name that has a file.
func TestCreate(t *testing.T) {
	d := disk.New(3)
	must(t, d.Create("a"))
	holds(t, d, "a", "")
	must(t, d.Append("a", []byte("123")), d.Create("b"))
	refused(t, d.Create("a"), api.ErrTwice)
	refused(t, d.Create("b"), api.ErrTwice)
	holds(t, d, "a", "123", "b", "")
	d.Crash(3)
	refused(t, d.Create("a"), api.ErrTwice)
	holds(t, d, "a", "123", "b", "")
}

// P5.2: a file that is created again has nothing of the one with its name that was removed.
func TestCreateAgain(t *testing.T) {
	d := filled(t, "a", "123")
	must(t, d.Sync("a"), d.Remove("a"), d.Create("a"))
	holds(t, d, "a", "")
	must(t, d.Append("a", []byte("4567")))
	d.Crash()
	holds(t, d, "a", "")
}

// P5.2: Append adds bytes at the end of its file only; they are not durable.
func TestAppend(t *testing.T) {
	d := filled(t, "a", "1", "b", "2")
	must(t, d.Append("a", []byte("xy")), d.Append("a", nil), d.Append("b", []byte{0, 255}), d.Append("a", []byte("z")))
	holds(t, d, "a", "1xyz", "b", "2\x00\xFF")
	must(t, d.Sync("a"), d.Append("a", []byte("t")))
	d.Crash(0, 1)
	holds(t, d, "a", "1xyz", "b", "2")
}

// P5.2: Append is refused if all files together would have more bytes than there is room, without an effect.
func TestAppendBeyondRoom(t *testing.T) {
	d := disk.New(10)
	must(t, d.Create("a"), d.Create("b"), d.Append("a", make([]byte, 6)))
	refused(t, d.Append("b", make([]byte, 5)), api.ErrFull)
	refused(t, d.Append("a", make([]byte, 5)), api.ErrFull)
	must(t, d.Append("b", make([]byte, 4)))
	refused(t, d.Append("b", make([]byte, 1)), api.ErrFull)
	must(t, d.Append("b", nil), d.Create("c"), d.Append("c", nil))
	holds(t, d, "a", "\x00\x00\x00\x00\x00\x00", "b", "\x00\x00\x00\x00", "c", "")
	must(t, d.Remove("a"), d.Append("c", make([]byte, 6)))
	refused(t, d.Append("c", make([]byte, 1)), api.ErrFull)
	must(t, d.Rename("b", "c"), d.Append("c", make([]byte, 6)))
	refused(t, d.Append("c", make([]byte, 1)), api.ErrFull)
}

// P5.2: Sync makes all bytes of its file durable, and of no other file.
func TestSync(t *testing.T) {
	d := filled(t, "a", "12", "b", "34", "c", "")
	must(t, d.Sync("a"), d.Sync("c"), d.Append("a", []byte("x")), d.Append("c", []byte("y")))
	holds(t, d, "a", "12x", "b", "34", "c", "y")
	d.Crash()
	holds(t, d, "a", "12", "b", "", "c", "")
	must(t, d.Append("a", []byte("x")), d.Sync("a"), d.Sync("a"))
	d.Crash()
	holds(t, d, "a", "12x", "b", "", "c", "")
}

// P5.2: Rename gives the file the other name, with what is durable of it, and changes no other file.
func TestRename(t *testing.T) {
	d := filled(t, "b", "12", "c", "34")
	must(t, d.Sync("b"), d.Append("b", []byte("xy")), d.Rename("b", "d"))
	holds(t, d, "c", "34", "d", "12xy")
	refused(t, d.Sync("b"), api.ErrName)
	must(t, d.Create("b"))
	d.Crash(0, 0, 1)
	holds(t, d, "b", "", "c", "", "d", "12x")
}

// P5.2: Rename removes another file that has the name, with what is durable of it.
func TestRenameOnto(t *testing.T) {
	d := filled(t, "a", "12", "b", "3456")
	must(t, d.Sync("b"), d.Rename("a", "b"))
	holds(t, d, "b", "12")
	d.Crash(1)
	holds(t, d, "b", "1")

	d = filled(t, "a", "12", "b", "3456")
	must(t, d.Sync("a"), d.Rename("a", "b"), d.Append("b", []byte("x")))
	d.Crash()
	holds(t, d, "b", "12")
}

// P5.2: Rename onto the same name leaves the file as it is, and needs it.
func TestRenameOntoItself(t *testing.T) {
	d := filled(t, "a", "12", "b", "3")
	must(t, d.Sync("a"), d.Append("a", []byte("x")), d.Rename("a", "a"))
	holds(t, d, "a", "12x", "b", "3")
	refused(t, d.Rename("c", "c"), api.ErrName)
	d.Crash(0, 1)
	holds(t, d, "a", "12", "b", "3")
}

// P5.2: Remove removes its file only, durable or not.
func TestRemove(t *testing.T) {
	d := filled(t, "a", "12", "b", "3", "c", "45")
	must(t, d.Sync("a"), d.Remove("a"), d.Remove("c"))
	holds(t, d, "b", "3")
	refused(t, d.Remove("a"), api.ErrName)
	d.Crash(1)
	holds(t, d, "b", "3")
}

// changes returns the five changes, which a disk with the files a and b allows in this order.
func changes(d *disk.Disk) []func() api.Code {
	return []func() api.Code{
		func() api.Code { return d.Create("c") },
		func() api.Code { return d.Append("a", []byte("x")) },
		func() api.Code { return d.Sync("a") },
		func() api.Code { return d.Rename("a", "b") },
		func() api.Code { return d.Remove("b") },
	}
}

// P5.2: a change that is planned to fail has no other effect; then all changes fail, without an effect, until Crash.
func TestPlannedFailure(t *testing.T) {
	for i := range 5 {
		d := filled(t, "a", "12", "b", "3")
		d.Arm(1)
		refused(t, changes(d)[i](), api.ErrDown)
		for j, change := range changes(d) {
			if code := change(); code != api.ErrDown || !d.Down() {
				t.Errorf("after change %d, change %d returned %v", i, j, code)
			}
		}
		d.Crash(9, 9)
		holds(t, d, "a", "12", "b", "3")
		for range 3 {
			must(t, d.Sync("b"))
		}
	}
}

// P5.2: a failed Sync makes nothing durable.
func TestPlannedSync(t *testing.T) {
	d := filled(t, "a", "12")
	d.Arm(1)
	refused(t, d.Sync("a"), api.ErrDown)
	refused(t, d.Sync("a"), api.ErrDown)
	d.Crash(1)
	holds(t, d, "a", "1")
}

// P5.2: every change counts for the plan, whether it is refused or not.
func TestEveryChangeCounts(t *testing.T) {
	d := filled(t, "a", "12", "b", "3")
	all := changes(d)
	d.Arm(len(all) + 1)
	for i, change := range all {
		if code := change(); code != api.OK {
			t.Errorf("change %d returned %v", i, code)
		}
	}
	refused(t, d.Sync("c"), api.ErrDown)

	for i := range 8 {
		d := filled(t, "a", "12")
		bad := []func() api.Code{
			func() api.Code { return d.Create("") },
			func() api.Code { return d.Create("a") },
			func() api.Code { return d.Append("x", nil) },
			func() api.Code { return d.Append("a", make([]byte, 99)) },
			func() api.Code { return d.Sync("x") },
			func() api.Code { return d.Rename("x", "y") },
			func() api.Code { return d.Rename("a", "") },
			func() api.Code { return d.Remove("x") },
		}
		d.Arm(2)
		if code := bad[i](); code == api.OK || code == api.ErrDown {
			t.Errorf("bad change %d returned %v", i, code)
		}
		refused(t, d.Sync("a"), api.ErrDown)
	}
}

// P5.2: api.ErrDown comes before all other codes, both for the planned change and for a disk that is down, and
// api.ErrName before api.ErrTwice and api.ErrFull.
func TestOrderOfCodes(t *testing.T) {
	for i := range 8 {
		d := filled(t, "a", "12")
		bad := []func() api.Code{
			func() api.Code { return d.Create("") },
			func() api.Code { return d.Create("a") },
			func() api.Code { return d.Append("x", make([]byte, 101)) },
			func() api.Code { return d.Append("a", make([]byte, 101)) },
			func() api.Code { return d.Sync("") },
			func() api.Code { return d.Rename("x", "") },
			func() api.Code { return d.Rename("a", "A") },
			func() api.Code { return d.Remove("x") },
		}
		d.Arm(1)
		refused(t, bad[i](), api.ErrDown)
		refused(t, bad[i](), api.ErrDown)
	}
	d := disk.New(0)
	refused(t, d.Append("x", []byte{1}), api.ErrName)
	refused(t, d.Append("X", []byte{1}), api.ErrName)
}
