package store

import (
	"bytes"
	"fmt"
	"math"
	"slices"
	"sort"
	"strings"
	"testing"

	"ringfence/api"
	"ringfence/path"
)

var noNames = []string{"", ".", "..", "/", "a/b", "A", "a b", "a\x00", "é", "abcdefghijklm"}

var farNumbers = []int{math.MinInt, math.MinInt + 1, -1 << 32, -2, -1, 1 << 16, 1 << 32, math.MaxInt - 1, math.MaxInt}

// told tells lists without entries alike, be they nil or empty.
func told(x any) string { return fmt.Sprintf("%+v", x) }

func wantSame(t *testing.T, what string, got, want any) {
	t.Helper()
	if told(got) != told(want) {
		t.Errorf("%s is %+v, not %+v", what, got, want)
	}
}

func dir(entries ...api.Entry) api.Object {
	return api.Object{Kind: api.ObjDir, Entries: entries, Peer: -1, Proc: -1, Links: 1}
}

func file(s string) api.Object {
	return api.Object{Kind: api.ObjFile, Data: []byte(s), Peer: -1, Proc: -1}
}

func entry(name string, obj int) api.Entry { return api.Entry{Name: name, Obj: obj} }

// objects of every kind, a free number, and a directory that has gone.
func some() []api.Object {
	return []api.Object{
		dir(entry("c", 1), entry("m", 2), entry("x", 3)),
		{Kind: api.ObjDir, Entries: []api.Entry{{Name: "f", Obj: 2}}, Peer: -1, Proc: -1, Links: 1},
		{Kind: api.ObjFile, Data: []byte("hello"), Peer: -1, Proc: -1, Links: 2},
		{Kind: api.ObjLink, Target: "m", Peer: -1, Proc: -1, Links: 1},
		{},
		{Kind: api.ObjEnd, Peer: 6, Proc: -1, Queue: []api.Message{{Data: []byte("one"), Has: true, Cap: api.Cap{Open: 1, Rights: 3}}, {Data: []byte("two")}}},
		{Kind: api.ObjEnd, Peer: 5, Proc: -1},
		{Kind: api.ObjProc, Peer: -1, Proc: 1},
		{Kind: api.ObjDir, Peer: -1, Proc: -1, Up: 8},
	}
}

const (
	root, inner, plain, link, freed, end, other, proc, gone = 0, 1, 2, 3, 4, 5, 6, 7, 8
)

func TestNew(t *testing.T) {
	want := []api.Object{{Kind: api.ObjDir, Peer: -1, Proc: -1, Links: 1, Up: 0}}
	first := New()
	wantSame(t, "New()", first, want)
	first[0].Kind = api.ObjFile
	wantSame(t, "a second New()", New(), want)
}

func TestOwn(t *testing.T) {
	for _, l := range [][]api.Object{nil, {}, New(), some(), make([]api.Object, 3), slices.Repeat(some(), 10)} {
		wantSame(t, "Own", Own(l), l)
	}
	full := api.Object{
		Kind: 9, Data: []byte{0}, Entries: []api.Entry{{Name: "z", Obj: -3}, {Name: "a", Obj: 99}}, Target: "//", Peer: -7,
		Queue: []api.Message{{}}, Proc: -8, Links: -9, Up: math.MaxInt,
	}
	wantSame(t, "Own", Own([]api.Object{full}), []api.Object{full})
}

func wantMake(t *testing.T, l []api.Object, o api.Object, at int) {
	t.Helper()
	got, n, err := Make(l, o)
	if err != api.OK || n != at {
		t.Errorf("Make in %d numbers answers %d, %d, not %d", len(l), n, err, at)
		return
	}
	want := slices.Clone(l)
	if at == len(l) {
		want = append(want, o)
	}
	want[at] = o
	wantSame(t, "Make", got, want)
}

func TestMake(t *testing.T) {
	wantMake(t, nil, file("a"), 0)
	wantMake(t, []api.Object{}, dir(), 0)
	wantMake(t, New(), file("a"), 1)
	wantMake(t, some(), file("a"), freed)
	wantMake(t, []api.Object{{}, dir()}, file("a"), 0)
	wantMake(t, []api.Object{dir(), {}, {}}, file("a"), 1)
	// Kind alone says what is free.
	wantMake(t, []api.Object{dir(), {Links: 3, Data: []byte("old"), Target: "x"}}, file("a"), 1)
	for _, o := range some() {
		wantMake(t, New(), o, 1)
		wantMake(t, some(), o, freed)
	}
	wantMake(t, New(), api.Object{Kind: api.ObjDir, Peer: 3, Proc: 4, Links: 5, Up: 6}, 1)
	wantMake(t, New(), api.Object{Kind: api.ObjFile}, 1)
}

func wantFull(t *testing.T, l []api.Object) {
	t.Helper()
	if got, n, err := Make(l, file("a")); err != api.ErrFull || n != 0 || len(got) != 0 {
		t.Errorf("Make in %d numbers answers %d objects, %d, %d", len(l), len(got), n, err)
	}
}

func TestMakeIsFull(t *testing.T) {
	l := New()
	for at := 1; at < api.MaxObjects; at++ {
		wantMake(t, l, file("a"), at)
		l, _, _ = Make(l, file("a"))
	}
	wantFull(t, l)
	wantFull(t, append(slices.Clone(l), l...))
	for _, at := range []int{0, 1, 20, api.MaxObjects - 1} {
		free := slices.Clone(l)
		free[at] = api.Object{}
		wantMake(t, free, dir(), at)
	}
}

func TestFind(t *testing.T) {
	for _, c := range []struct {
		dir  int
		name string
		want int
	}{
		{root, "c", inner}, {root, "m", plain}, {root, "x", link}, {inner, "f", plain},
		{root, "f", -1}, {root, "", -1}, {root, "cc", -1}, {root, "C", -1}, {inner, "c", -1}, {gone, "c", -1},
		{plain, "c", -1}, {link, "m", -1}, {freed, "c", -1}, {end, "c", -1}, {proc, "c", -1}, {9, "c", -1},
	} {
		if got := Find(some(), c.dir, c.name); got != c.want {
			t.Errorf("Find(.., %d, %q) is %d, not %d", c.dir, c.name, got, c.want)
		}
	}
	for _, at := range farNumbers {
		if got := Find(some(), at, "c"); got != -1 {
			t.Errorf("Find(.., %d, c) is %d", at, got)
		}
	}
	if Find(nil, 0, "c") != -1 || Find(New(), 0, "c") != -1 {
		t.Error("Find finds what is not there")
	}
	// What is no directory has no entries, whatever stands there.
	for _, kind := range []int{0, api.ObjFile, api.ObjLink, api.ObjEnd, api.ObjProc, 6, -1} {
		l := []api.Object{{Kind: kind, Entries: []api.Entry{{Name: "a", Obj: 0}}}}
		if got := Find(l, 0, "a"); got != -1 {
			t.Errorf("Find in kind %d is %d", kind, got)
		}
	}
}

func refuseEnter(t *testing.T, l []api.Object, dir int, name string, obj int, want api.Errno) {
	t.Helper()
	if got, err := Enter(l, dir, name, obj); err != want || len(got) != 0 {
		t.Errorf("Enter(.., %d, %q, %d) answers %d objects, %d, not %d", dir, name, obj, len(got), err, want)
	}
}

func TestEnterRefuses(t *testing.T) {
	l := some()
	for _, at := range append([]int{freed, len(l)}, farNumbers...) {
		refuseEnter(t, l, at, "n", plain, api.ErrNone)
		refuseEnter(t, l, root, "n", at, api.ErrNone)
		refuseEnter(t, l, at, "n", at, api.ErrNone)
	}
	for _, at := range []int{plain, link, end, other, proc} {
		refuseEnter(t, l, at, "n", plain, api.ErrDir)
		refuseEnter(t, l, at, "n", at, api.ErrDir)
	}
	refuseEnter(t, l, gone, "n", plain, api.ErrNone)
	refuseEnter(t, l, gone, "n", gone, api.ErrNone)
	for _, name := range noNames {
		refuseEnter(t, l, root, name, plain, api.ErrName)
	}
	for _, name := range []string{"c", "m", "x"} {
		refuseEnter(t, l, root, name, end, api.ErrName)
	}
	refuseEnter(t, nil, 0, "n", 0, api.ErrNone)
}

func TestEnterTellsTheFirst(t *testing.T) {
	l := some()
	refuseEnter(t, l, plain, "", freed, api.ErrNone)
	refuseEnter(t, l, freed, "", plain, api.ErrNone)
	refuseEnter(t, l, plain, "", plain, api.ErrDir)
	refuseEnter(t, l, gone, "", plain, api.ErrNone)
	l[root].Links = 0
	refuseEnter(t, l, root, "c", plain, api.ErrNone)
	l[root].Links = 1
	for at := range api.MaxEntries {
		l[inner].Entries = append(l[inner].Entries[:at], entry(string(rune('a'+at)), plain))
	}
	refuseEnter(t, l, inner, "n", plain, api.ErrFull)
	refuseEnter(t, l, inner, "a", plain, api.ErrName)
	refuseEnter(t, l, inner, "..", plain, api.ErrName)
	refuseEnter(t, l, inner, "n", freed, api.ErrNone)
	l[inner].Links = 0
	refuseEnter(t, l, inner, "n", plain, api.ErrNone)
	l[inner].Kind = api.ObjLink
	refuseEnter(t, l, inner, "n", plain, api.ErrDir)
}

func enter(t *testing.T, l []api.Object, dir int, name string, obj int) []api.Object {
	t.Helper()
	got, err := Enter(l, dir, name, obj)
	if err != api.OK || len(got) != len(l) {
		t.Fatalf("Enter(.., %d, %q, %d) answers %d objects, %d", dir, name, obj, len(got), err)
	}
	return got
}

func TestEnter(t *testing.T) {
	for _, obj := range []int{root, inner, plain, link, end, other, proc, gone} {
		want := some()
		want[inner].Entries = []api.Entry{{Name: "b", Obj: obj}, {Name: "f", Obj: plain}}
		want[obj].Links++
		if want[obj].Kind == api.ObjDir {
			want[obj].Up = inner
		}
		wantSame(t, "Enter", enter(t, some(), inner, "b", obj), want)
	}
	// One object may have many names, and each one is a Link.
	l := enter(t, enter(t, some(), root, "a", gone), inner, "0123456789._", gone)
	wantSame(t, "a directory with two names", l[gone], api.Object{Kind: api.ObjDir, Peer: -1, Proc: -1, Links: 2, Up: inner})
	if Find(l, root, "a") != gone || Find(l, inner, "0123456789._") != gone {
		t.Error("a name doesn't lead to what was entered")
	}
	enter(t, l, gone, "n", plain)
}

func TestEnterUntilFull(t *testing.T) {
	names := []string{"m", "_", "a", "zz", "z", "0", ".a", "9"}
	l, _, _ := Make(New(), file(""))
	for at, name := range names {
		l = enter(t, l, root, name, 1)
		want := slices.Sorted(slices.Values(names[:at+1]))
		wantSame(t, "Names", Names(l[root]), want)
		if l[1].Links != at+1 {
			t.Errorf("behind %d names there are %d Links", at+1, l[1].Links)
		}
	}
	refuseEnter(t, l, root, "n", 1, api.ErrFull)
	l, _, _ = Remove(l, root, "z")
	enter(t, l, root, "n", 1)
}

func refuseRemove(t *testing.T, l []api.Object, dir int, name string, want api.Errno) {
	t.Helper()
	if got, n, err := Remove(l, dir, name); err != want || n != 0 || len(got) != 0 {
		t.Errorf("Remove(.., %d, %q) answers %d objects, %d, %d, not %d", dir, name, len(got), n, err, want)
	}
}

func TestRemoveRefuses(t *testing.T) {
	l := some()
	for _, at := range append([]int{freed, len(l)}, farNumbers...) {
		refuseRemove(t, l, at, "c", api.ErrNone)
	}
	for _, at := range []int{plain, link, end, other, proc} {
		refuseRemove(t, l, at, "c", api.ErrDir)
	}
	for _, name := range append([]string{"f", "n", "mm"}, noNames...) {
		refuseRemove(t, l, root, name, api.ErrNone)
		refuseRemove(t, l, gone, name, api.ErrNone)
	}
	refuseRemove(t, l, root, "c", api.ErrNotEmpty)
	refuseRemove(t, nil, 0, "c", api.ErrNone)
	refuseRemove(t, enter(t, l, inner, "self", inner), inner, "self", api.ErrNotEmpty)
}

func wantRemove(t *testing.T, l []api.Object, dir int, name string, obj int, want []api.Object) {
	t.Helper()
	got, n, err := Remove(l, dir, name)
	if err != api.OK || n != obj {
		t.Errorf("Remove(.., %d, %q) answers %d, %d, not %d", dir, name, n, err, obj)
	}
	wantSame(t, "Remove", got, want)
}

func TestRemove(t *testing.T) {
	want := some()
	want[root].Entries = []api.Entry{{Name: "c", Obj: inner}, {Name: "x", Obj: link}}
	want[plain].Links = 1
	wantRemove(t, some(), root, "m", plain, want)

	want = some()
	want[inner].Entries, want[plain].Links = nil, 1
	wantRemove(t, some(), inner, "f", plain, want)

	empty := slices.Clone(want)
	want[root].Entries = []api.Entry{{Name: "m", Obj: plain}, {Name: "x", Obj: link}}
	want[inner].Links, want[inner].Up = 0, inner
	wantRemove(t, empty, root, "c", inner, want)

	// A directory that has other names still is Up of itself, too.
	want = enter(t, enter(t, some(), root, "a", gone), root, "b", gone)
	l := slices.Clone(want)
	want[root].Entries = want[root].Entries[1:]
	want[gone].Links, want[gone].Up = 1, gone
	wantRemove(t, l, root, "a", gone, want)

	// A directory that has gone still lets its names go.
	l = []api.Object{dir(), {Kind: api.ObjDir, Entries: []api.Entry{{Name: "f", Obj: 2}}, Up: 1}, {Kind: api.ObjFile, Links: 1}}
	wantRemove(t, l, 1, "f", 2, []api.Object{dir(), {Kind: api.ObjDir, Up: 1}, {Kind: api.ObjFile}})
}

// What has Entries, but is no directory, is not held back by them.
func TestRemoveOfOtherKinds(t *testing.T) {
	for _, kind := range []int{api.ObjFile, api.ObjLink, api.ObjEnd, api.ObjProc} {
		o := api.Object{Kind: kind, Entries: []api.Entry{{Name: "q", Obj: 0}}, Links: 1, Up: 7}
		less := o
		less.Links = 0
		wantRemove(t, []api.Object{dir(entry("a", 1)), o}, 0, "a", 1, []api.Object{dir(), less})
	}
}

func TestRemoveOfWhatIsNoObject(t *testing.T) {
	for _, obj := range append([]int{1, 2}, farNumbers...) {
		wantRemove(t, []api.Object{dir(entry("a", obj)), {}}, 0, "a", obj, []api.Object{dir(), {}})
	}
}

func TestRemoveUndoesEnter(t *testing.T) {
	for _, obj := range []int{plain, link, end, other, proc, gone} {
		for _, name := range []string{"a", "d", "n", "z"} {
			l, n, err := Remove(enter(t, some(), root, name, obj), root, name)
			if n != obj || err != api.OK {
				t.Errorf("Remove(.., %d, %q) answers %d, %d", root, name, n, err)
			}
			wantSame(t, "what Remove undoes", l, some())
		}
	}
}

func wantRead(t *testing.T, o api.Object, at, n int, want string, wantErr api.Errno) {
	t.Helper()
	if b, err := Read(o, at, n); string(b) != want || err != wantErr {
		t.Errorf("Read(%q, %d, %d) is %q, %d, not %q, %d", o.Data, at, n, b, err, want, wantErr)
	}
}

func TestRead(t *testing.T) {
	const text = "hello"
	o := file(text)
	for at := range 9 {
		for n := range 9 {
			var want []byte
			for i := at; i < at+n && i < len(text); i++ {
				want = append(want, text[i])
			}
			wantRead(t, o, at, n, string(want), api.OK)
		}
	}
	for _, far := range farNumbers {
		if far < 0 {
			wantRead(t, o, far, 1, "", api.ErrRange)
			wantRead(t, o, 1, far, "", api.ErrRange)
			wantRead(t, o, far, far, "", api.ErrRange)
			continue
		}
		wantRead(t, o, far, 1, "", api.OK)
		wantRead(t, o, 1, far, "ello", api.OK)
		wantRead(t, o, 5, far, "", api.OK)
		wantRead(t, o, far, far, "", api.OK)
	}
	wantRead(t, api.Object{Kind: api.ObjFile}, 0, 1, "", api.OK)
}

// wrongKind is what Read and Write tell of a kind other than a file.
func wrongKind(kind int) api.Errno {
	if kind == api.ObjDir {
		return api.ErrFile
	}
	return api.ErrFit
}

func TestOnlyFilesAreReadAndWritten(t *testing.T) {
	for _, kind := range append([]int{0, api.ObjDir, api.ObjLink, api.ObjEnd, api.ObjProc, 6}, farNumbers...) {
		o := api.Object{Kind: kind, Data: []byte("hello"), Target: "x", Peer: -1, Proc: -1, Links: 1}
		for _, at := range []int{0, -1, api.MaxData + 1} {
			wantRead(t, o, at, 1, "", wrongKind(kind))
			wantRead(t, o, at, -1, "", wrongKind(kind))
			refuseWrite(t, o, at, "XY", wrongKind(kind))
			refuseWrite(t, o, at, "", wrongKind(kind))
		}
	}
}

func refuseWrite(t *testing.T, o api.Object, at int, b string, want api.Errno) {
	t.Helper()
	got, err := Write(o, at, []byte(b))
	if err != want {
		t.Errorf("Write(%q, %d, %q) tells %d, not %d", o.Data, at, b, err, want)
	}
	wantSame(t, "what stands beside an error", got, api.Object{})
}

func wantWrite(t *testing.T, o api.Object, at int, b, want string) {
	t.Helper()
	got, err := Write(o, at, []byte(b))
	if err != api.OK {
		t.Errorf("Write(%q, %d, %q) tells %d", o.Data, at, b, err)
	}
	o.Data = []byte(want)
	wantSame(t, "Write", got, o)
}

func TestWrite(t *testing.T) {
	wantWrite(t, file("ab"), 3, "z", "ab\x00z")
	wantWrite(t, file("ab"), 2, "z", "abz")
	wantWrite(t, file("ab"), 1, "z", "az")
	wantWrite(t, file("ab"), 1, "yz", "ayz")
	wantWrite(t, file("abcd"), 1, "yz", "ayzd")
	wantWrite(t, file(""), 0, "z", "z")
	wantWrite(t, file(""), 2, "z", "\x00\x00z")
	for at := range api.MaxData + 1 {
		wantWrite(t, file("ab"), at, "", "ab")
		wantWrite(t, file(""), at, "", "")
	}
	wantWrite(t, api.Object{Kind: api.ObjFile, Entries: []api.Entry{{Name: "a", Obj: 1}}, Target: "t", Peer: 2, Queue: []api.Message{{Has: true}}, Proc: 3, Links: 4, Up: 5}, 0, "z", "z")
}

func TestWriteUntilFull(t *testing.T) {
	long := strings.Repeat("x", api.MaxData)
	for size := range api.MaxData + 3 {
		b := strings.Repeat("z", size)
		for at := range api.MaxData + 3 {
			if at+size > api.MaxData {
				refuseWrite(t, file(""), at, b, api.ErrFull)
				refuseWrite(t, file(long), at, b, api.ErrFull)
				continue
			}
			wantWrite(t, file(long), at, b, long[:at]+b+long[at+size:])
			if size > 0 {
				wantWrite(t, file(""), at, b, strings.Repeat("\x00", at)+b)
			}
		}
	}
	for _, at := range farNumbers {
		want := api.ErrFull
		if at < 0 {
			want = api.ErrRange
		}
		for _, b := range []string{"", "z", strings.Repeat("z", 1000)} {
			refuseWrite(t, file("ab"), at, b, want)
		}
	}
}

func TestNames(t *testing.T) {
	wantSame(t, "Names", Names(some()[root]), []string{"c", "m", "x"})
	wantSame(t, "Names", Names(some()[inner]), []string{"f"})
	wantSame(t, "Names", Names(New()[root]), []string{})
	for _, kind := range append([]int{0, api.ObjFile, api.ObjLink, api.ObjEnd, api.ObjProc, 6}, farNumbers...) {
		o := api.Object{Kind: kind, Entries: []api.Entry{{Name: "a", Obj: 0}}}
		wantSame(t, "Names of no directory", Names(o), []string{})
	}
}

// numbers are the same ones each time, so that a failure can be looked at again.
func numbers() func(below int) int {
	state := uint64(20261118)
	return func(below int) int {
		state = state*6364136223846793005 + 1442695040888963407
		return int((state >> 33) % uint64(below))
	}
}

// model keeps names in maps, by another way than the program's.
type model struct {
	kinds []int
	names []map[string]int
	links []int
	ups   []int
}

func (m *model) is(at int) bool { return 0 <= at && at < len(m.kinds) && m.kinds[at] != 0 }

func (m *model) make(kind int) (int, api.Errno) {
	for at, old := range m.kinds {
		if old == 0 {
			m.kinds[at], m.names[at], m.links[at], m.ups[at] = kind, map[string]int{}, 0, 0
			return at, api.OK
		}
	}
	if len(m.kinds) >= 40 {
		return 0, api.ErrFull
	}
	m.kinds, m.names = append(m.kinds, kind), append(m.names, map[string]int{})
	m.links, m.ups = append(m.links, 0), append(m.ups, 0)
	return len(m.kinds) - 1, api.OK
}

func (m *model) enter(dir int, name string, obj int) api.Errno {
	if !m.is(dir) || !m.is(obj) {
		return api.ErrNone
	}
	if m.kinds[dir] != api.ObjDir {
		return api.ErrDir
	}
	if m.links[dir] == 0 {
		return api.ErrNone
	}
	if _, there := m.names[dir][name]; there || !path.Name(name) {
		return api.ErrName
	}
	if len(m.names[dir]) == 8 {
		return api.ErrFull
	}
	m.names[dir][name] = obj
	m.links[obj]++
	m.ups[obj] = dir
	return api.OK
}

func (m *model) remove(dir int, name string) (int, api.Errno) {
	if !m.is(dir) {
		return 0, api.ErrNone
	}
	if m.kinds[dir] != api.ObjDir {
		return 0, api.ErrDir
	}
	obj, there := m.names[dir][name]
	if !there {
		return 0, api.ErrNone
	}
	if len(m.names[obj]) > 0 {
		return 0, api.ErrNotEmpty
	}
	delete(m.names[dir], name)
	m.links[obj]--
	m.ups[obj] = obj
	return obj, api.OK
}

func (m *model) objects() []api.Object {
	var l []api.Object
	for at, kind := range m.kinds {
		o := api.Object{Kind: kind, Links: m.links[at]}
		if kind == api.ObjDir {
			o.Up = m.ups[at]
		}
		for name, obj := range m.names[at] {
			o.Entries = append(o.Entries, entry(name, obj))
		}
		sort.Slice(o.Entries, func(a, b int) bool { return o.Entries[a].Name < o.Entries[b].Name })
		l = append(l, o)
	}
	return l
}

func TestAnything(t *testing.T) {
	next := numbers()
	counts := map[string]int{}
	for range 60 {
		m := &model{kinds: []int{api.ObjDir}, names: []map[string]int{{}}, links: []int{1}, ups: []int{0}}
		l := m.objects()
		for range 250 {
			var did string
			l, did = step(t, l, m, next)
			counts[did]++
			wantSame(t, "the store behind "+did, l, m.objects())
			if t.Failed() {
				return
			}
		}
	}
	for _, did := range []string{"make 0", "make 15", "free 0", "enter 0", "enter 6", "enter 7", "enter 11", "enter 15", "remove 0", "remove 6", "remove 11", "remove 18"} {
		if counts[did] < 5 {
			t.Errorf("%s came %d times: these tell little", did, counts[did])
		}
	}
}

// step does one and the same to the store and to the model; it tells what.
func step(t *testing.T, l []api.Object, m *model, next func(int) int) ([]api.Object, string) {
	t.Helper()
	near := func() int { return next(next(len(l)+2)+2) - 1 }
	name := []string{"a", "b", "c", "d", "e", "f", "g", "h", "i", "j", "..", "A"}[next(12)]
	keep := func(got []api.Object, err api.Errno) {
		if err == api.OK {
			l = got
		}
	}
	switch next(9) {
	case 0, 1:
		kind := []int{api.ObjFile, api.ObjDir, api.ObjDir, api.ObjLink}[next(4)]
		got, n, err := Make(l, api.Object{Kind: kind})
		at, want := m.make(kind)
		wantSame(t, "Make", []any{n, err}, []any{at, want})
		keep(got, err)
		return l, "make " + fmt.Sprint(int(err))
	case 2:
		at := next(len(l))
		if m.links[at] > 0 || len(m.names[at]) > 0 || next(3) > 0 {
			return l, "nothing"
		}
		l = Own(l)
		l[at] = api.Object{}
		m.kinds[at], m.ups[at] = 0, 0
		return l, "free 0"
	case 3, 4, 5, 6:
		dir, obj := near(), near()
		got, err := Enter(l, dir, name, obj)
		wantSame(t, "Enter", err, m.enter(dir, name, obj))
		keep(got, err)
		return l, "enter " + fmt.Sprint(int(err))
	}
	dir := near()
	found := Find(l, dir, name)
	got, n, err := Remove(l, dir, name)
	at, want := m.remove(dir, name)
	wantSame(t, "Remove", []any{n, err}, []any{at, want})
	if err == api.OK && found != n {
		t.Errorf("Find(.., %d, %q) is %d, but Remove tells %d", dir, name, found, n)
	}
	keep(got, err)
	return l, "remove " + fmt.Sprint(int(err))
}

// roomy lays something behind each list, so that it shows if a call looks at
// it, or writes there.
func roomy(l []api.Object) []api.Object {
	out := behind(l, api.Object{}, dir(entry("behind", 0)))
	for at := range out {
		o := &out[at]
		o.Data = behind(o.Data, 'B', 'B', 'B', 'B')
		o.Entries = behind(o.Entries, entry("behind", 2), entry("behinds", 2))
		o.Queue = behind(o.Queue, api.Message{Has: true}, api.Message{})
		for at := range o.Queue {
			o.Queue[at].Data = behind(o.Queue[at].Data, 'B', 'B')
		}
	}
	return out
}

func behind[T any](l []T, more ...T) []T {
	return append(slices.Clone(l), more...)[:len(l)]
}

// whole tells a store with the spare room of all its lists.
func whole(l []api.Object) string {
	var out []string
	for _, o := range l[:cap(l)] {
		for _, m := range o.Queue[:cap(o.Queue)] {
			out = append(out, told(m.Data[:cap(m.Data)]))
		}
		out = append(out, told(o), told(o.Data[:cap(o.Data)]), told(o.Entries[:cap(o.Entries)]), told(o.Queue[:cap(o.Queue)]))
	}
	return strings.Join(out, "\n")
}

// calls answers what each call makes of one store.
func calls(l []api.Object, b []byte) [][]api.Object {
	made, _, _ := Make(l, l[end])
	entered, _ := Enter(l, root, "d", plain)
	removed, _, _ := Remove(l, root, "m")
	written, _ := Write(l[plain], 7, b)
	same, _ := Write(l[plain], 7, b[:0])
	appended, _, _ := Make(l[:freed], l[end])
	return [][]api.Object{Own(l), made, entered, removed, {written}, {same}, appended}
}

// spoil changes every list of a store, its spare room too.
func spoil(l []api.Object) {
	l = l[:cap(l)]
	for at := range l {
		o := &l[at]
		for i := range o.Data[:cap(o.Data)] {
			o.Data[:cap(o.Data)][i] = '!'
		}
		for i := range o.Entries[:cap(o.Entries)] {
			o.Entries[:cap(o.Entries)][i] = entry("!", -9)
		}
		for i := range o.Queue[:cap(o.Queue)] {
			m := &o.Queue[:cap(o.Queue)][i]
			for j := range m.Data[:cap(m.Data)] {
				m.Data[:cap(m.Data)][j] = '!'
			}
			*m = api.Message{Cap: api.Cap{Open: -9}}
		}
		*o = api.Object{Kind: -9}
	}
}

func TestHandedInIsOnlyRead(t *testing.T) {
	room, bytesIn := roomy(some()), behind([]byte("XY"), 'B', 'B')
	before := whole(room)
	got := calls(room, bytesIn)
	for at, want := range calls(some(), []byte("XY")) {
		wantSame(t, "with spare room behind, call "+fmt.Sprint(at), got[at], want)
	}
	if Find(room, root, "behind") != -1 || Find(room, len(room)+1, "behind") != -1 || Find(room, freed, "behind") != -1 {
		t.Error("Find looks behind a list")
	}
	refuseRemove(t, room, root, "behind", api.ErrNone)
	refuseRemove(t, room, len(room)+1, "behind", api.ErrNone)
	refuseEnter(t, room, len(room)+1, "n", plain, api.ErrNone)
	refuseEnter(t, room, root, "n", len(room)+1, api.ErrNone)
	wantRead(t, room[plain], 3, 9, "lo", api.OK)
	wantSame(t, "Names", Names(room[root]), []string{"c", "m", "x"})
	wantWrite(t, room[plain], 7, "z", "hello\x00\x00z")
	if whole(room) != before || !bytes.Equal(bytesIn[:4], []byte("XYBB")) {
		t.Error("what was handed in is another one")
	}
}

func TestNothingIsKept(t *testing.T) {
	room, bytesIn := roomy(some()), []byte("XY")
	got := calls(room, bytesIn)
	read, _ := Read(room[plain], 0, 9)
	names := Names(room[root])
	spoil(room)
	bytesIn[0], bytesIn[1] = '!', '!'
	for at, want := range calls(some(), []byte("XY")) {
		wantSame(t, "once what was handed in is changed, call "+fmt.Sprint(at), got[at], want)
	}
	wantSame(t, "Read", string(read), "hello")
	wantSame(t, "Names", names, []string{"c", "m", "x"})
}

func TestAnswersAreNew(t *testing.T) {
	room := roomy(some())
	before := whole(room)
	for _, l := range calls(room, []byte("XY")) {
		spoil(l)
	}
	read, _ := Read(room[plain], 1, 2)
	clear(read[:cap(read)])
	names := Names(room[root])
	clear(names[:cap(names)])
	if whole(room) != before {
		t.Error("answers share memory with what was handed in")
	}
}

// Objects that were handed in with one list for all of them have one each.
func TestAnswersShareNothing(t *testing.T) {
	shared := some()
	shared[root].Data, shared[link].Data = shared[plain].Data, shared[plain].Data
	shared[gone].Entries = shared[root].Entries
	shared[other].Queue = shared[end].Queue
	rest := func(l []api.Object, i int) string { return told(l[:i]) + told(l[i+1:]) }
	for at, answer := range calls(shared, []byte("XY")) {
		for i := range answer {
			l := calls(shared, []byte("XY"))[at]
			before := rest(l, i)
			spoil(l[i : i+1 : i+1])
			if rest(l, i) != before {
				t.Errorf("lists of answer %d share memory with those of object %d there", at, i)
			}
		}
	}
}

func TestNoCallPanics(t *testing.T) {
	odd := append([]int{0, 1, 2, 8, 9}, farNumbers...)
	for _, l := range [][]api.Object{nil, {}, {{}}, some(), {dir(entry("a", -5), entry("b", math.MaxInt))}} {
		for _, a := range odd {
			for _, b := range odd {
				for _, name := range []string{"", "a", "b", "..", strings.Repeat("a", 1000)} {
					Find(l, a, name)
					Enter(l, a, name, b)
					Remove(l, a, name)
				}
				for _, o := range l {
					Read(o, a, b)
					Write(o, a, make([]byte, max(0, min(b, 99))))
				}
			}
		}
		for _, o := range l {
			Names(o)
			Make(l, o)
		}
	}
}
