package disk_test

import (
	"bytes"
	"math/rand"
	"strconv"
	"strings"
	"testing"

	"isthmus/api"
	"isthmus/disk"
)

func same(a []api.File, b []api.File) bool {
	if len(a) != len(b) {
		return false
	}
	for i := range a {
		if a[i].Name != b[i].Name || !bytes.Equal(a[i].Data, b[i].Data) {
			return false
		}
	}
	return true
}

func want(t *testing.T, got, e api.Errno) {
	t.Helper()
	if got != e {
		t.Error(got, "instead of", e)
	}
}

func files(d *disk.Disk) []api.File {
	return d.Crash(bytes2bools(d.Waiting()))
}

func bytes2bools(n int) []bool {
	l := make([]bool, n)
	for i := range l {
		l[i] = true
	}
	return l
}

func TestNewAndLoad(t *testing.T) {
	d := disk.New()
	if d.Down() || d.Waiting() != 0 || len(d.Crash(nil)) != 0 {
		t.Error("New")
	}
	l := []api.File{{Name: "b", Data: []byte{1, 2}}, {Name: "a"}, {Name: strings.Repeat("\xff", 32), Data: []byte{3}}}
	d, e := disk.Load(l)
	if e != api.OK || d.Waiting() != 0 || !same(d.Crash(nil), l) || d.Down() {
		t.Error("Load", e)
	}
	l[0].Data[0] = 9
	if b, _ := d.Read("b"); !bytes.Equal(b, []byte{1, 2}) {
		t.Error("what was handed in is kept", b)
	}
	var many []api.File
	for i := range api.MaxFiles {
		many = append(many, api.File{Name: strconv.Itoa(i)})
	}
	if d, e := disk.Load(many); d == nil || e != api.OK {
		t.Error("16 files", e)
	}
	for i, l := range [][]api.File{append(many, api.File{Name: "x"}), {{}}, {{Name: strings.Repeat("a", 33)}}, {{Name: "a"}, {Name: "b"}, {Name: "a"}}} {
		if d, e := disk.Load(l); d != nil || e != api.ErrFile {
			t.Error(i, e)
		}
	}
	if d, e := disk.Load(nil); d == nil || e != api.OK {
		t.Error("no files", e)
	}
}

func TestExamples(t *testing.T) {
	d := disk.New()
	want(t, d.Append("a", []byte{1, 2}), api.OK)
	want(t, d.Sync("a"), api.OK)
	want(t, d.Append("a", []byte{3, 4, 5}), api.OK)
	if d.Waiting() != 3 {
		t.Error(d.Waiting())
	}
	for _, c := range []struct {
		keep []bool
		data []byte
	}{{[]bool{false, true}, []byte{1, 2, 0, 4}}, {nil, []byte{1, 2}}, {[]bool{true, true, true}, []byte{1, 2, 3, 4, 5}}, {[]bool{false, false, true, true, true}, []byte{1, 2, 0, 0, 5}}, {[]bool{true, false, false}, []byte{1, 2, 3}}} {
		if got := d.Crash(c.keep); !same(got, []api.File{{Name: "a", Data: c.data}}) {
			t.Error(c.keep, got)
		}
	}
	d = disk.New()
	d.Arm(2)
	want(t, d.Append("a", []byte{1}), api.OK)
	want(t, d.Sync("a"), api.ErrDown)
	if !same(d.Crash([]bool{true}), []api.File{{Name: "a", Data: []byte{1}}}) || !same(d.Crash(nil), []api.File{{Name: "a"}}) || !d.Down() {
		t.Error("Crash")
	}
	if b, e := d.Read("a"); len(b) != 0 || e != api.ErrDown {
		t.Error(b, e)
	}
}

func TestOperationsRefuse(t *testing.T) {
	d := disk.New()
	want(t, d.Sync("a"), api.ErrFile)
	want(t, d.Truncate("a", 0), api.ErrFile)
	want(t, d.Truncate("a", -1), api.ErrFile)
	want(t, d.Append("", nil), api.ErrFile)
	want(t, d.Append(strings.Repeat("a", 33), nil), api.ErrFile)
	if _, e := d.Read("a"); e != api.ErrFile {
		t.Error(e)
	}
	if len(d.Crash(nil)) != 0 {
		t.Error("a refused Append made a file")
	}
	want(t, d.Append("a", nil), api.OK)
	if b, e := d.Read("a"); len(b) != 0 || e != api.OK {
		t.Error(b, e)
	}
	want(t, d.Append("a", []byte{1, 2, 3}), api.OK)
	want(t, d.Truncate("a", -1), api.ErrArg)
	want(t, d.Truncate("a", 4), api.ErrArg)
	want(t, d.Truncate("a", 3), api.OK)
	for i := range api.MaxFiles - 1 {
		want(t, d.Append("f"+strconv.Itoa(i), nil), api.OK)
	}
	want(t, d.Append("more", nil), api.ErrFile)
	want(t, d.Append("f3", []byte{7}), api.OK)
	if len(d.Crash(nil)) != 16 {
		t.Error("files")
	}
}

func TestTruncateKeepsWhatIsSafe(t *testing.T) {
	d := disk.New()
	d.Append("a", []byte{1, 2, 3, 4})
	d.Sync("a")
	d.Append("a", []byte{5, 6})
	want(t, d.Truncate("a", 5), api.OK)
	if d.Waiting() != 1 || !same(d.Crash(nil), []api.File{{Name: "a", Data: []byte{1, 2, 3, 4}}}) {
		t.Error("safe bytes", d.Waiting())
	}
	want(t, d.Truncate("a", 2), api.OK)
	d.Append("a", []byte{9})
	if d.Waiting() != 1 || !same(d.Crash(nil), []api.File{{Name: "a", Data: []byte{1, 2}}}) || !same(files(d), []api.File{{Name: "a", Data: []byte{1, 2, 9}}}) {
		t.Error("cut bytes")
	}
}

func TestArm(t *testing.T) {
	d := disk.New()
	d.Append("a", []byte{1})
	d.Arm(3)
	want(t, d.Sync("nope"), api.ErrFile) // a refused operation is one, too
	want(t, d.Append("a", []byte{2}), api.OK)
	want(t, d.Append("a", []byte{3}), api.ErrDown)
	if !d.Down() || d.Waiting() != 3 || !same(files(d), []api.File{{Name: "a", Data: []byte{1, 2, 3}}}) {
		t.Error("an Append in which the power goes is done", d.Waiting())
	}
	want(t, d.Append("a", nil), api.ErrDown)
	want(t, d.Sync("a"), api.ErrDown)
	want(t, d.Truncate("x", -1), api.ErrDown)
	d.Arm(0)
	if !d.Down() {
		t.Error("Arm brought the power back")
	}

	d = disk.New()
	d.Append("a", []byte{1, 2})
	d.Arm(1)
	want(t, d.Truncate("a", 1), api.ErrDown)
	if d.Waiting() != 2 {
		t.Error("a Truncate in which the power goes isn't done")
	}

	d = disk.New()
	d.Append("a", []byte{1, 2})
	d.Arm(1)
	want(t, d.Sync("a"), api.ErrDown)
	if d.Waiting() != 2 {
		t.Error("a Sync in which the power goes isn't done")
	}

	d = disk.New()
	d.Arm(1)
	want(t, d.Append("", []byte{1}), api.ErrDown)
	if len(d.Crash(nil)) != 0 || !d.Down() {
		t.Error("an Append that would be refused isn't done")
	}

	for _, n := range []int{0, -1, -1 << 63} {
		d = disk.New()
		d.Arm(1)
		d.Arm(n)
		for range 5 {
			want(t, d.Append("a", nil), api.OK)
		}
	}
	d = disk.New()
	d.Arm(2)
	d.Append("a", nil)
	d.Arm(2) // what was armed is forgotten
	want(t, d.Append("a", nil), api.OK)
	want(t, d.Append("a", nil), api.ErrDown)
}

func TestReadCountsAsNoOperation(t *testing.T) {
	d := disk.New()
	d.Append("a", []byte{1})
	d.Arm(1)
	for range 3 {
		if _, e := d.Read("a"); e != api.OK {
			t.Error(e)
		}
		d.Crash(nil)
		d.Waiting()
	}
	want(t, d.Sync("a"), api.ErrDown)
}

// The bytes that aren't safe are counted from file to file.
func TestCrashCountsThroughFiles(t *testing.T) {
	d := disk.New()
	d.Append("b", []byte{1})
	d.Append("a", []byte{2, 3})
	d.Sync("b")
	d.Append("b", []byte{4, 5})
	got := d.Crash([]bool{false, true, true, false})
	if !same(got, []api.File{{Name: "b", Data: []byte{1, 0, 5}}, {Name: "a", Data: []byte{2}}}) {
		t.Error(got)
	}
	if !same(d.Crash([]bool{false, false, false, true}), []api.File{{Name: "b", Data: []byte{1}}, {Name: "a", Data: []byte{0, 3}}}) {
		t.Error("the last one")
	}
	if d.Waiting() != 4 || d.Down() {
		t.Error("the disk doesn't stay")
	}
}

func TestMemoryIsNew(t *testing.T) {
	d := disk.New()
	room := bytes.Repeat([]byte{5}, 32)
	d.Append("a", room[:4])
	d.Append("a", []byte{6})
	d.Sync("a")
	room[0] = 0
	b, _ := d.Read("a")
	b = append(b, 1, 1, 1)
	b[1] = 0
	f := d.Crash(nil)
	f[0].Data = append(f[0].Data, 2, 2, 2)
	f[0].Data[2] = 0
	f[0].Name = "x"
	if got, _ := d.Read("a"); !bytes.Equal(got, []byte{5, 5, 5, 5, 6}) || room[4] != 5 {
		t.Error(got)
	}
	d.Append("a", []byte{7})
	if got, _ := d.Read("a"); !bytes.Equal(got, []byte{5, 5, 5, 5, 6, 7}) {
		t.Error(got)
	}
}

func TestNilDisk(t *testing.T) {
	var d *disk.Disk
	want(t, d.Append("a", nil), api.ErrNil)
	want(t, d.Sync("a"), api.ErrNil)
	want(t, d.Truncate("a", 0), api.ErrNil)
	if b, e := d.Read("a"); len(b) != 0 || e != api.ErrNil {
		t.Error(e)
	}
	d.Arm(1)
	if d.Down() || d.Waiting() != 0 || len(d.Crash([]bool{true})) != 0 {
		t.Error("nil disk")
	}
}

// model: bytes with a mark each of whether it is safe, written a second time and slowly.
type model struct {
	names []string
	data  map[string][]byte
	safe  map[string]int
}

func TestAgainstAModel(t *testing.T) {
	r := rand.New(rand.NewSource(4))
	for range 300 {
		d, m := disk.New(), model{data: map[string][]byte{}, safe: map[string]int{}}
		for range 30 {
			name := string(rune('a' + r.Intn(3)))
			_, there := m.data[name]
			switch r.Intn(4) {
			case 0, 1:
				b := []byte{byte(r.Intn(256)), byte(r.Intn(256))}[:r.Intn(3)]
				want(t, d.Append(name, b), api.OK)
				if !there {
					m.names = append(m.names, name)
				}
				m.data[name] = append(bytes.Clone(m.data[name]), b...)
			case 2:
				e := d.Sync(name)
				if there {
					want(t, e, api.OK)
					m.safe[name] = len(m.data[name])
				}
			case 3:
				n := r.Intn(6)
				e := d.Truncate(name, n)
				if there && n <= len(m.data[name]) {
					want(t, e, api.OK)
					m.data[name] = bytes.Clone(m.data[name][:n])
					m.safe[name] = min(m.safe[name], n)
				} else if there {
					want(t, e, api.ErrArg)
				}
			}
		}
		keep := make([]bool, r.Intn(20))
		for i := range keep {
			keep[i] = r.Intn(2) == 0
		}
		var left []api.File
		k := 0
		for _, name := range m.names {
			data := bytes.Clone(m.data[name])
			end := m.safe[name]
			for i := m.safe[name]; i < len(data); i++ {
				if k < len(keep) && keep[k] {
					end = i + 1
				} else {
					data[i] = 0
				}
				k++
			}
			left = append(left, api.File{Name: name, Data: data[:end]})
		}
		if got := d.Crash(keep); !same(got, left) || d.Waiting() != k {
			t.Fatal(got, left)
		}
	}
}
