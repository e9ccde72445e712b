package node_test

import (
	"bytes"
	"math/rand"
	"strconv"
	"testing"

	"isthmus/api"
	"isthmus/disk"
	"isthmus/node"
)

func equal(a, b [][]byte) bool {
	if len(a) != len(b) {
		return false
	}
	for i := range a {
		if !bytes.Equal(a[i], b[i]) {
			return false
		}
	}
	return true
}

func load(t *testing.T, files ...api.File) *disk.Disk {
	t.Helper()
	d, e := disk.Load(files)
	if e != api.OK {
		t.Fatal(e)
	}
	return d
}

func file(name string, data ...byte) api.File {
	return api.File{Name: name, Data: data}
}

func TestPutAsTheChapterSays(t *testing.T) {
	d := disk.New()
	n, records, e := node.Open(d)
	if e != api.OK || len(records) != 0 || n.Count() != 0 || n.Sick() || len(d.Crash(nil)) != 0 {
		t.Fatal("Open of a new disk", e)
	}
	if e := n.Put([]byte{7, 8}); e != api.OK || n.Count() != 1 {
		t.Error(e)
	}
	files := d.Crash(nil)
	if len(files) != 2 || files[0].Name != "log" || files[1].Name != "marks" || !bytes.Equal(files[0].Data, []byte{0, 0, 0, 0, 0, 0, 0, 2, 7, 8}) || !bytes.Equal(files[1].Data, []byte{1}) {
		t.Error(files)
	}
	d.Arm(3)
	if e := n.Put([]byte{9}); e != api.ErrDown || !n.Sick() || n.Count() != 1 {
		t.Error(e)
	}
	if e := n.Put([]byte{9}); e != api.ErrLost {
		t.Error("a sick node", e)
	}
	_, records, e = node.Open(load(t, d.Crash(nil)...))
	if e != api.OK || !equal(records, [][]byte{{7, 8}}) {
		t.Error(records, e)
	}
	n, records, e = node.Open(load(t, d.Crash([]bool{true})...))
	if e != api.OK || !equal(records, [][]byte{{7, 8}, {9}}) || n.Count() != 2 || n.Sick() {
		t.Error(records, e)
	}
}

// Each of the four operations is where the chapter has it: the power goes in it, and what is safe tells.
func TestPutsSteps(t *testing.T) {
	cases := []struct {
		at    int
		files []api.File
	}{
		{1, []api.File{file("log"), file("marks")}},
		{2, []api.File{file("log"), file("marks")}},
		{3, []api.File{file("log", 0, 0, 0, 0, 0, 0, 0, 1, 5), file("marks")}},
		{4, []api.File{file("log", 0, 0, 0, 0, 0, 0, 0, 1, 5), file("marks")}},
	}
	for _, c := range cases {
		d := load(t, file("log"), file("marks"))
		n, _, _ := node.Open(d)
		d.Arm(c.at)
		if e := n.Put([]byte{5}); e != api.ErrDown {
			t.Error(c.at, e)
		}
		left := d.Crash(nil)
		for i, f := range left {
			if f.Name != c.files[i].Name || !bytes.Equal(f.Data, c.files[i].Data) {
				t.Error(c.at, f)
			}
		}
		if whole := []int{9, 9, 1, 1}[c.at-1]; d.Waiting() != whole {
			t.Error(c.at, "waiting", d.Waiting())
		}
	}
	d := disk.New()
	n, _, _ := node.Open(d)
	d.Arm(5)
	if e := n.Put(nil); e != api.OK || d.Waiting() != 0 || d.Sync("log") != api.ErrDown {
		t.Error("more than four operations", e)
	}
}

func TestOpenRefuses(t *testing.T) {
	if n, l, e := node.Open(nil); n != nil || len(l) != 0 || e != api.ErrNil {
		t.Error(e)
	}
	lost := []*disk.Disk{
		load(t, file("log"), file("marks", 1)),
		load(t, file("marks", 1)),
		load(t, file("log", 0, 0, 0, 0, 0, 0, 0), file("marks", 1)),
		load(t, file("log", 0, 0, 0, 0, 0, 0, 0, 2, 7), file("marks", 1)),
		load(t, file("log", 0, 0, 0, 0, 0, 0, 0, 1, 7), file("marks", 1, 1)),
		load(t, file("log", 255, 255, 255, 255, 255, 255, 255, 255, 7), file("marks", 1)),
		load(t, file("log", 0x80, 0, 0, 0, 0, 0, 0, 0, 7), file("marks", 1)),
	}
	for i, d := range lost {
		if n, l, e := node.Open(d); n != nil || len(l) != 0 || e != api.ErrLost {
			t.Error(i, e)
		}
	}
	d := disk.New()
	d.Arm(1)
	d.Append("log", nil)
	if n, l, e := node.Open(d); n != nil || len(l) != 0 || e != api.ErrDown {
		t.Error(e)
	}
}

func TestOpenCleans(t *testing.T) {
	d := load(t, file("log", 0, 0, 0, 0, 0, 0, 0, 0, 1, 2, 3), file("marks", 1, 2, 1))
	n, l, e := node.Open(d)
	if e != api.OK || !equal(l, [][]byte{{}}) || n.Count() != 1 {
		t.Error(l, e)
	}
	files := d.Crash(nil)
	if len(files[0].Data) != 8 || !bytes.Equal(files[1].Data, []byte{1}) {
		t.Error(files)
	}
	if e := n.Put([]byte{4}); e != api.OK {
		t.Error(e)
	}
	if _, l, _ := node.Open(d); !equal(l, [][]byte{{}, {4}}) {
		t.Error(l)
	}
	// what isn't safe is synced, also where nothing is cut; a file that there isn't stays so
	d = disk.New()
	d.Append("log", []byte{0, 0, 0, 0, 0, 0, 0, 1, 6})
	d.Append("marks", []byte{1})
	if _, l, e := node.Open(d); e != api.OK || !equal(l, [][]byte{{6}}) || d.Waiting() != 0 {
		t.Error(l, e, d.Waiting())
	}
	d = disk.New()
	d.Append("log", []byte{1, 2})
	if _, l, e := node.Open(d); e != api.OK || len(l) != 0 || len(d.Crash(nil)) != 1 {
		t.Error(l, e)
	}
}

// The operations of Open, in their order: the power goes in each.
func TestOpensSteps(t *testing.T) {
	make := func() *disk.Disk {
		d := disk.New()
		d.Append("log", []byte{0, 0, 0, 0, 0, 0, 0, 0, 9})
		d.Append("marks", []byte{1, 0})
		return d
	}
	waiting := []int{11, 10, 9, 8, 0}
	for i, w := range waiting {
		d := make()
		d.Arm(i + 1)
		n, l, e := node.Open(d)
		if i < 4 && (n != nil || len(l) != 0 || e != api.ErrDown) || i == 4 && e != api.OK {
			t.Error(i, e)
		}
		if d.Waiting() != w {
			t.Error(i, d.Waiting())
		}
	}
}

// Where nothing is to be cut, Open syncs alone; and of a file that there isn't it does nothing.
func TestOpenOfACleanDisk(t *testing.T) {
	d := load(t, file("log", 0, 0, 0, 0, 0, 0, 0, 0), file("marks", 1))
	d.Arm(3)
	if _, l, e := node.Open(d); e != api.OK || len(l) != 1 || d.Down() || d.Sync("log") != api.ErrDown {
		t.Error(e)
	}
	d = load(t, file("marks"))
	d.Arm(2)
	if _, _, e := node.Open(d); e != api.OK || d.Down() || d.Sync("marks") != api.ErrDown {
		t.Error(e)
	}
}

func TestPutOfAFullDisk(t *testing.T) {
	var files []api.File
	for i := range api.MaxFiles {
		files = append(files, file(strconv.Itoa(i)))
	}
	n, _, e := node.Open(load(t, files...))
	if e != api.OK {
		t.Fatal(e)
	}
	if e := n.Put(nil); e != api.ErrFile || !n.Sick() || n.Count() != 0 {
		t.Error(e)
	}
	if e := n.Put(nil); e != api.ErrLost {
		t.Error(e)
	}
	// with room for one file alone the third operation is refused
	n, _, _ = node.Open(load(t, files[:15]...))
	if e := n.Put([]byte{1}); e != api.ErrFile || !n.Sick() {
		t.Error(e)
	}
}

// Behind any losses of power the records are those that were answered, or these and the one under way.
func TestPowerAtEachOperation(t *testing.T) {
	r := rand.New(rand.NewSource(5))
	for range 2000 {
		d := disk.New()
		n, _, _ := node.Open(d)
		var put [][]byte
		for range r.Intn(4) {
			record := make([]byte, r.Intn(5))
			r.Read(record)
			if n.Put(record) != api.OK {
				t.Fatal("Put")
			}
			put = append(put, record)
		}
		last := []byte{byte(r.Intn(3)), 1, 1}
		d.Arm(1 + r.Intn(4))
		if n.Put(last) != api.ErrDown {
			t.Fatal("the power didn't go")
		}
		for opens := 0; ; opens++ {
			keep := make([]bool, r.Intn(d.Waiting()+2))
			for i := range keep {
				keep[i] = r.Intn(2) == 0
			}
			d = load(t, d.Crash(keep)...)
			d.Arm(r.Intn(6))
			m, got, e := node.Open(d)
			if e == api.ErrDown {
				continue
			}
			if e != api.OK || !equal(got, put) && !equal(got, append(put[:len(put):len(put)], last)) || m.Count() != len(got) {
				t.Fatal(e, got, put, last)
			}
			put = got
			d.Arm(0)
			if m.Put([]byte{3}) != api.OK || opens > 3 {
				break
			}
			put = append(put, []byte{3})
		}
	}
}

func TestRecordsAreNewMemory(t *testing.T) {
	d := disk.New()
	n, _, _ := node.Open(d)
	room := bytes.Repeat([]byte{7}, 20)
	n.Put(room[:3])
	n.Put([]byte{8})
	room[0] = 0
	_, l, _ := node.Open(d)
	if !equal(l, [][]byte{{7, 7, 7}, {8}}) || room[3] != 7 {
		t.Error(l)
	}
	l[0] = append(l[0], 1, 1, 1, 1, 1, 1, 1, 1, 1, 1)
	l[0][0] = 5
	if !bytes.Equal(l[1], []byte{8}) {
		t.Error("two records share memory")
	}
	if _, l, _ := node.Open(d); !equal(l, [][]byte{{7, 7, 7}, {8}}) {
		t.Error(l)
	}
}

func TestNilNode(t *testing.T) {
	var n *node.Node
	if n.Put(nil) != api.ErrNil || n.Count() != 0 || n.Sick() {
		t.Error("nil node")
	}
	new(node.Node).Put(nil) // of what no maker has made the calls end
}
