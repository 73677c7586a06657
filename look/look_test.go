package look

import (
	"fmt"
	"math"
	"slices"
	"strings"
	"testing"

	"ringfence/api"
	"ringfence/path"
	"ringfence/store"
)

var farNumbers = []int{math.MinInt, math.MinInt + 1, -1 << 32, -2, -1, 1 << 16, 1 << 32, math.MaxInt - 1, math.MaxInt}

// The objects of some, by their numbers.
const (
	top = iota
	a
	b
	f
	c
	side
	s
	goneDir
	freed
	end
	proc
)

func dir(up int) api.Object {
	return api.Object{Kind: api.ObjDir, Peer: -1, Proc: -1, Links: 1, Up: up}
}

func link(target string) api.Object {
	return api.Object{Kind: api.ObjLink, Target: target, Peer: -1, Proc: -1, Links: 1}
}

func file() api.Object {
	return api.Object{Kind: api.ObjFile, Data: []byte("x"), Peer: -1, Proc: -1, Links: 1}
}

// lay gives a directory a name, and keeps its names in order.
func lay(l []api.Object, at int, name string, obj int) {
	l[at].Entries = append(l[at].Entries, api.Entry{Name: name, Obj: obj})
	slices.SortFunc(l[at].Entries, func(a, b api.Entry) int { return strings.Compare(a.Name, b.Name) })
}

// some is /a/b/f, /a/b/c, /side, /s, a directory that has gone, a free number,
// and what is neither file, directory nor link.
func some() []api.Object {
	l := []api.Object{
		dir(top), dir(top), dir(a), file(), dir(b), dir(top), file(), dir(goneDir), {},
		{Kind: api.ObjEnd, Peer: -1, Proc: -1}, {Kind: api.ObjProc, Peer: -1, Proc: 3},
	}
	l[goneDir].Links = 0
	lay(l, top, "a", a)
	lay(l, a, "b", b)
	lay(l, b, "f", f)
	lay(l, b, "c", c)
	lay(l, top, "side", side)
	lay(l, top, "s", s)
	lay(l, side, "end", end)
	lay(l, side, "proc", proc)
	return l
}

// with lays links of these names and targets into one directory; their numbers
// stand behind all others.
func with(l []api.Object, at int, pairs ...string) []api.Object {
	for i := 0; i < len(pairs); i += 2 {
		l = append(l, link(pairs[i+1]))
		lay(l, at, pairs[i], len(l)-1)
	}
	return l
}

type want struct {
	base          int
	s             string
	fence, follow bool
	found         api.Found
	err           api.Errno
}

func found(obj, dir int, name string) api.Found { return api.Found{Obj: obj, Dir: dir, Name: name} }

func check(t *testing.T, l []api.Object, w want) {
	t.Helper()
	got, err := Path(l, w.base, w.s, w.fence, w.follow)
	if got != w.found || err != w.err {
		t.Errorf("Path(.., %d, %q, %v, %v) is %+v, %d, not %+v, %d", w.base, w.s, w.fence, w.follow, got, err, w.found, w.err)
	}
}

// checkAll is for what hangs neither on a fence nor on whether links are followed.
func checkAll(t *testing.T, l []api.Object, base int, s string, found api.Found, err api.Errno) {
	t.Helper()
	for _, fence := range []bool{false, true} {
		for _, follow := range []bool{false, true} {
			check(t, l, want{base, s, fence, follow, found, err})
		}
	}
}

// outside is answered without a fence; with one the path leads out.
func outside(t *testing.T, l []api.Object, base int, s string, found api.Found, err api.Errno) {
	t.Helper()
	for _, follow := range []bool{false, true} {
		check(t, l, want{base, s, false, follow, found, err})
		check(t, l, want{base, s, true, follow, api.Found{}, api.ErrOut})
	}
}

var none = api.Found{}

func TestPath(t *testing.T) {
	l := some()
	checkAll(t, l, top, "a", found(a, top, "a"), api.OK)
	checkAll(t, l, top, "a/b", found(b, a, "b"), api.OK)
	checkAll(t, l, top, "a/b/f", found(f, b, "f"), api.OK)
	checkAll(t, l, a, "b/../b/f", found(f, b, "f"), api.OK)
	checkAll(t, l, a, "b/c/../../b", found(b, a, "b"), api.OK)
	checkAll(t, l, a, "./b//f/.", found(f, b, "f"), api.OK)
	checkAll(t, l, top, "s", found(s, top, "s"), api.OK)
	checkAll(t, l, top, "side/end", found(end, side, "end"), api.OK)
	checkAll(t, l, top, "side/proc", found(proc, side, "proc"), api.OK)
}

func TestPathWithoutParts(t *testing.T) {
	l := some()
	checkAll(t, l, top, ".", found(top, top, ""), api.OK)
	checkAll(t, l, a, ".", found(a, top, ""), api.OK)
	checkAll(t, l, b, ".//.", found(b, a, ""), api.OK)
	checkAll(t, l, a, "b/..", found(a, top, ""), api.OK)
	checkAll(t, l, a, "b/c/..", found(b, a, ""), api.OK)
	checkAll(t, l, goneDir, ".", found(goneDir, goneDir, ""), api.OK)
	outside(t, l, b, "/", found(top, top, ""), api.OK)
	outside(t, l, b, "/a/b/..", found(a, top, ""), api.OK)
}

func TestPathIsNotThereYet(t *testing.T) {
	l := some()
	checkAll(t, l, top, "new", found(-1, top, "new"), api.OK)
	checkAll(t, l, a, "b/new", found(-1, b, "new"), api.OK)
	checkAll(t, l, a, "b/c/../new/.", found(-1, b, "new"), api.OK)
	checkAll(t, l, goneDir, "new", found(-1, goneDir, "new"), api.OK)
	outside(t, l, b, "/new", found(-1, top, "new"), api.OK)
	for _, s := range []string{"new/x", "new/..", "new/../new", "b/new/x", "b/new/../f"} {
		checkAll(t, l, a, s, none, api.ErrNone)
	}
}

func TestPathRefusesBase(t *testing.T) {
	l := some()
	for _, text := range []string{"a", "", "/", "BAD", "..", strings.Repeat("a", 99)} {
		for _, base := range append([]int{freed, len(l)}, farNumbers...) {
			checkAll(t, l, base, text, none, api.ErrNone)
		}
		for _, base := range []int{f, s, end, proc} {
			checkAll(t, l, base, text, none, api.ErrDir)
		}
		checkAll(t, nil, 0, text, none, api.ErrNone)
		checkAll(t, []api.Object{{}}, 0, text, none, api.ErrNone)
	}
	odd := []api.Object{dir(0), {Kind: 6}, {Kind: -1}}
	checkAll(t, odd, 1, "a", none, api.ErrDir)
	checkAll(t, odd, 2, "a", none, api.ErrDir)
}

func TestPathRefusesForm(t *testing.T) {
	l := some()
	for _, base := range []int{top, a, goneDir} {
		checkAll(t, l, base, "", none, api.ErrForm)
		checkAll(t, l, base, strings.Repeat("/", api.MaxPath+1), none, api.ErrMuch)
		checkAll(t, l, base, strings.Repeat("./", api.MaxPath), none, api.ErrMuch)
		for _, text := range []string{"BAD", "a/BAD", "/BAD", "../BAD", "new/x/BAD", "abcdefghijklm", "a b"} {
			checkAll(t, l, base, text, none, api.ErrName)
		}
	}
	checkAll(t, l, top, "...", found(-1, top, "..."), api.OK)
	checkAll(t, l, top, strings.Repeat("./", api.MaxPath/2-1)+"a/", found(a, top, "a"), api.OK)
	check(t, l, want{a, strings.Repeat("/", api.MaxPath), false, false, found(top, top, ""), api.OK})
}

func TestPathThroughNoDirectory(t *testing.T) {
	l := some()
	for _, s := range []string{"a/b/f/x", "a/b/f/..", "a/b/f/../f", "s/x", "s/..", "side/end/x", "side/proc/.."} {
		checkAll(t, l, top, s, none, api.ErrDir)
	}
}

func TestPathFromTheRoot(t *testing.T) {
	l := some()
	for _, base := range []int{top, a, c, side, goneDir} {
		outside(t, l, base, "/a/b/f", found(f, b, "f"), api.OK)
		outside(t, l, base, "//side/", found(side, top, "side"), api.OK)
		outside(t, l, base, "/..", found(top, top, ""), api.OK)
		outside(t, l, base, "/../../s", found(s, top, "s"), api.OK)
		outside(t, l, base, "/s/x", none, api.ErrDir)
		outside(t, l, base, "/new/x", none, api.ErrNone)
	}
}

func TestPathUp(t *testing.T) {
	l := some()
	outside(t, l, a, "..", found(top, top, ""), api.OK)
	outside(t, l, a, "../s", found(s, top, "s"), api.OK)
	outside(t, l, a, "b/../../s", found(s, top, "s"), api.OK)
	outside(t, l, a, "../a/b", found(b, a, "b"), api.OK)
	outside(t, l, b, "c/../../b/f", found(f, b, "f"), api.OK)
	outside(t, l, top, "..", found(top, top, ""), api.OK)
	outside(t, l, top, "../a", found(a, top, "a"), api.OK)
	outside(t, l, goneDir, "..", found(goneDir, goneDir, ""), api.OK)
	outside(t, l, a, "../new/x", none, api.ErrNone)
	outside(t, l, a, "../s/x", none, api.ErrDir)
	// What is not there is told ahead of what leads out behind it.
	checkAll(t, l, a, "new/../..", none, api.ErrNone)
	checkAll(t, l, a, "b/f/../../..", none, api.ErrDir)
}

func TestLinksAtTheEnd(t *testing.T) {
	l := with(some(), a, "in", "b/f", "d", "b", "self", ".", "new", "b/new", "bad", "b/new/x", "up", "..", "abs", "/a/b", "far", "b/../../s", "slash", "/")
	first := len(some())
	for i, name := range []string{"in", "d", "self", "new", "bad", "up", "abs", "far", "slash"} {
		for _, fence := range []bool{false, true} {
			check(t, l, want{a, name, fence, false, found(first+i, a, name), api.OK})
			check(t, l, want{a, "b/../" + name + "/.", fence, false, found(first+i, a, name), api.OK})
		}
	}
	for _, c := range []struct {
		name  string
		found api.Found
		err   api.Errno
	}{
		{"in", found(f, b, "f"), api.OK}, {"d", found(b, a, "b"), api.OK}, {"self", found(a, top, ""), api.OK},
		{"new", found(-1, b, "new"), api.OK}, {"bad", none, api.ErrNone},
	} {
		check(t, l, want{a, c.name, false, true, c.found, c.err})
		check(t, l, want{a, c.name, true, true, c.found, c.err})
	}
	for _, c := range []struct {
		name  string
		found api.Found
	}{
		{"up", found(top, top, "")}, {"abs", found(b, a, "b")}, {"far", found(s, top, "s")}, {"slash", found(top, top, "")},
	} {
		check(t, l, want{a, c.name, false, true, c.found, api.OK})
		check(t, l, want{a, c.name, true, true, none, api.ErrOut})
	}
	// A fence around more lets more of them be followed.
	check(t, l, want{top, "a/up", true, true, found(top, top, ""), api.OK})
	check(t, l, want{top, "a/far", true, true, found(s, top, "s"), api.OK})
	check(t, l, want{top, "a/abs", true, true, none, api.ErrOut})
}

func TestLinksOnTheWay(t *testing.T) {
	l := with(some(), a, "d", "b", "up", "..", "abs", "/a", "file", "b/f", "self", ".", "lost", "new", "out", "../x")
	checkAll(t, l, a, "d/f", found(f, b, "f"), api.OK)
	checkAll(t, l, a, "d/c/..", found(b, a, ""), api.OK)
	checkAll(t, l, a, "d/..", found(a, top, ""), api.OK)
	checkAll(t, l, a, "d/new", found(-1, b, "new"), api.OK)
	checkAll(t, l, a, "self/self/b", found(b, a, "b"), api.OK)
	checkAll(t, l, a, "file/x", none, api.ErrDir)
	checkAll(t, l, a, "file/..", none, api.ErrDir)
	checkAll(t, l, a, "lost/x", none, api.ErrNone)
	checkAll(t, l, a, "lost/..", none, api.ErrNone)
	outside(t, l, a, "up/s", found(s, top, "s"), api.OK)
	outside(t, l, a, "up/..", found(top, top, ""), api.OK)
	outside(t, l, a, "abs/b/f", found(f, b, "f"), api.OK)
	outside(t, l, a, "out/y", none, api.ErrNone)
	outside(t, l, a, "self/..", found(top, top, ""), api.OK)
	// Behind a link to a directory, .. is Up of that, not where the link is.
	l = with(l, side, "b", "/a/b")
	check(t, l, want{side, "b/..", false, false, found(a, top, ""), api.OK})
	check(t, l, want{side, "b/../b/f", false, false, found(f, b, "f"), api.OK})
}

// The path is a link and a part behind it: the link's last part is on the way
// then, and is followed whatever follow says.
func TestLinksToLinks(t *testing.T) {
	l := with(some(), a, "one", "two", "two", "three/.", "three", "b")
	first := len(some())
	check(t, l, want{a, "one", true, false, found(first, a, "one"), api.OK})
	check(t, l, want{a, "one", true, true, found(b, a, "b"), api.OK})
	checkAll(t, l, a, "one/f", found(f, b, "f"), api.OK)
	checkAll(t, l, a, "one/c/../../one/c", found(c, b, "c"), api.OK)
}

func TestLinksWithWrongTargets(t *testing.T) {
	l := with(some(), a, "empty", "", "bad", "BAD", "absbad", "/BAD", "long", strings.Repeat("/", api.MaxPath+1), "dots", strings.Repeat(".", 13))
	for name, err := range map[string]api.Errno{
		"empty": api.ErrForm, "bad": api.ErrName, "absbad": api.ErrName, "long": api.ErrMuch, "dots": api.ErrName,
	} {
		checkAll(t, l, a, name+"/x", none, err)
		check(t, l, want{a, name, false, true, none, err})
		check(t, l, want{a, name, true, true, none, err})
		check(t, l, want{a, name, true, false, found(store.Find(l, a, name), a, name), api.OK})
	}
}

func TestHops(t *testing.T) {
	l := some()
	for i := range api.MaxHops + 1 {
		target := "n" + fmt.Sprint(i-1)
		if i == 0 {
			target = "c"
		}
		l = with(l, b, "n"+fmt.Sprint(i), target)
	}
	last := "n" + fmt.Sprint(api.MaxHops-1)
	over := "n" + fmt.Sprint(api.MaxHops)
	check(t, l, want{b, last, true, true, found(c, b, "c"), api.OK})
	check(t, l, want{b, over, true, true, none, api.ErrLoop})
	check(t, l, want{b, over, true, false, found(len(l)-1, b, over), api.OK})
	checkAll(t, l, b, last+"/new", found(-1, c, "new"), api.OK)
	checkAll(t, l, b, over+"/new", none, api.ErrLoop)
	// Hops are those of the whole path, not of one part.
	checkAll(t, l, b, strings.Repeat("n0/../", api.MaxHops)+"f", found(f, b, "f"), api.OK)
	checkAll(t, l, b, strings.Repeat("n0/../", api.MaxHops+1)+"f", none, api.ErrLoop)
	checkAll(t, l, b, strings.Repeat("n1/../", api.MaxHops/2)+"f", found(f, b, "f"), api.OK)
	checkAll(t, l, b, strings.Repeat("n1/../", api.MaxHops/2)+"n0/new", none, api.ErrLoop)
}

func TestLoops(t *testing.T) {
	l := with(some(), a, "self", "self", "in", "in/x", "up", "../a/up", "abs", "/a/abs", "bad", "BAD")
	for _, name := range []string{"self", "in"} {
		checkAll(t, l, a, name+"/x", none, api.ErrLoop)
		check(t, l, want{a, name, true, true, none, api.ErrLoop})
		check(t, l, want{a, name, false, true, none, api.ErrLoop})
	}
	for _, name := range []string{"up", "abs"} {
		outside(t, l, a, name+"/x", none, api.ErrLoop)
	}
	// Too many links are told ahead of what is wrong with the next one.
	six := strings.Repeat("d/", api.MaxHops)
	m := with(some(), a, "d", ".", "bad", "BAD", "abs", "/a")
	checkAll(t, m, a, six+"bad/x", none, api.ErrLoop)
	checkAll(t, m, a, six+"abs/x", none, api.ErrLoop)
	checkAll(t, m, a, six[2:]+"bad/x", none, api.ErrName)
	outside(t, m, a, six[2:]+"abs/b", found(b, a, "b"), api.OK)
}

func TestBeneath(t *testing.T) {
	l := some()
	up := map[int][]int{top: {top}, a: {a, top}, b: {b, a, top}, c: {c, b, a, top}, side: {side, top}, goneDir: {goneDir}}
	for dir := -1; dir <= len(l); dir++ {
		for base := -1; base <= len(l); base++ {
			if got := Beneath(l, dir, base); got != slices.Contains(up[dir], base) {
				t.Errorf("Beneath(.., %d, %d) is %v", dir, base, got)
			}
		}
	}
	for _, far := range farNumbers {
		if Beneath(l, far, top) || Beneath(l, a, far) || Beneath(l, far, far) || Beneath(nil, far, far) {
			t.Errorf("%d is beneath, or something beneath it", far)
		}
	}
	if Beneath(nil, 0, 0) || Beneath([]api.Object{{}}, 0, 0) || Beneath([]api.Object{file()}, 0, 0) {
		t.Error("what is no directory is beneath")
	}
}

func TestBeneathGoesRound(t *testing.T) {
	// 1, 2 and 3 go round; 4 leads into that; 5 is Up of itself; the root's Up is 4.
	l := []api.Object{dir(4), dir(2), dir(3), dir(1), dir(2), dir(5)}
	for dir, ups := range [][]int{{0}, {1, 2, 3}, {1, 2, 3}, {1, 2, 3}, {4, 2, 3, 1}, {5}} {
		for base := -1; base < 7; base++ {
			if got := Beneath(l, dir, base); got != slices.Contains(ups, base) {
				t.Errorf("Beneath(.., %d, %d) is %v", dir, base, got)
			}
		}
	}
	// One below another, as many as there are.
	var deep []api.Object
	for at := range 500 {
		deep = append(deep, dir(max(0, at-1)))
	}
	if !Beneath(deep, 499, 0) || !Beneath(deep, 499, 1) || Beneath(deep, 1, 2) {
		t.Error("a deep directory is not beneath")
	}
	// An Up that is no directory leads nowhere.
	for _, odd := range append([]int{2, 3}, farNumbers...) {
		l := []api.Object{dir(0), dir(odd), file(), {}}
		if Beneath(l, 1, odd) || Beneath(l, 1, 0) || !Beneath(l, 1, 1) {
			t.Errorf("with Up %d it is beneath", odd)
		}
	}
}

// numbers are the same ones each time, so that a failure can be looked at again.
func numbers() func(below int) int {
	state := uint64(20261118)
	return func(below int) int {
		state = state*6364136223846793005 + 1442695040888963407
		return int((state >> 33) % uint64(below))
	}
}

var names = []string{"a", "b", "c", "d"}

func anyPath(next func(int) int) string {
	if next(40) == 0 {
		return []string{"", "BAD", strings.Repeat("a/", 40)}[next(3)]
	}
	var out []string
	for range 1 + next(5) {
		out = append(out, append([]string{"..", "..", "."}, names...)[next(7)])
	}
	return []string{"", "", "", "/"}[next(4)] + strings.Join(out, "/")
}

// anyStore is one that store itself made: names may go again too.
func anyStore(next func(int) int) []api.Object {
	l := store.New()
	for range 4 + next(24) {
		o := []api.Object{dir(0), dir(0), file(), link(anyPath(next)), link(anyPath(next))}[next(5)]
		o.Links = 0
		made, n, _ := store.Make(l, o)
		at := next(next(len(l)) + 1)
		if got, err := store.Enter(made, at, names[next(4)], n); err == api.OK {
			l = got
		}
		if next(6) == 0 {
			if got, _, err := store.Remove(l, next(len(l)), names[next(4)]); err == api.OK {
				l = got
			}
		}
	}
	return l
}

// slow is the chapter's walk, part by part, by calling itself.
func slow(l []api.Object, base, at int, parts []string, fence, follow bool, hops int) (api.Found, api.Errno) {
	if len(parts) == 0 {
		return found(at, l[at].Up, ""), api.OK
	}
	on := func(at int, parts []string, hops int) (api.Found, api.Errno) {
		return slow(l, base, at, parts, fence, follow, hops)
	}
	if l[at].Kind != api.ObjDir {
		return none, api.ErrDir
	}
	rest := parts[1:]
	if parts[0] == ".." {
		if at == base && fence {
			return none, api.ErrOut
		}
		return on(l[at].Up, rest, hops)
	}
	for _, e := range l[at].Entries {
		if e.Name != parts[0] {
			continue
		}
		o := l[e.Obj]
		if o.Kind != api.ObjLink || len(rest) == 0 && !follow {
			if len(rest) == 0 {
				return found(e.Obj, at, e.Name), api.OK
			}
			return on(e.Obj, rest, hops)
		}
		if hops == 6 {
			return none, api.ErrLoop
		}
		more, abs, err := path.Split(o.Target)
		if err != api.OK {
			return none, err
		}
		if abs && fence {
			return none, api.ErrOut
		}
		if abs {
			at = 0
		}
		return on(at, slices.Concat(more, rest), hops+1)
	}
	if len(rest) == 0 {
		return found(-1, at, parts[0]), api.OK
	}
	return none, api.ErrNone
}

func slowPath(l []api.Object, base int, s string, fence, follow bool) (api.Found, api.Errno) {
	if base < 0 || base >= len(l) || l[base].Kind == 0 {
		return none, api.ErrNone
	}
	if l[base].Kind != api.ObjDir {
		return none, api.ErrDir
	}
	parts, abs, err := path.Split(s)
	if err != api.OK {
		return none, err
	}
	at := base
	if abs && fence {
		return none, api.ErrOut
	}
	if abs {
		at = 0
	}
	return slow(l, base, at, parts, fence, follow, 0)
}

func TestAnything(t *testing.T) {
	next := numbers()
	counts := map[api.Errno]int{}
	for range 1500 {
		l := anyStore(next)
		for range 30 {
			w := want{base: next(next(len(l)+1)+2) - 1, s: anyPath(next), fence: next(2) == 0, follow: next(2) == 0}
			w.found, w.err = slowPath(l, w.base, w.s, w.fence, w.follow)
			check(t, l, w)
			counts[w.err]++
			inside(t, l, w)
			stepByStep(t, l, w, anyPath(next))
			if t.Failed() {
				return
			}
		}
	}
	for _, err := range []api.Errno{api.OK, api.ErrForm, api.ErrMuch, api.ErrNone, api.ErrName, api.ErrDir, api.ErrLoop, api.ErrOut} {
		if counts[err] < 20 {
			t.Errorf("errno %d came %d times: these tell little", err, counts[err])
		}
	}
}

// inside: with a fence nothing leads out, and what is found is what is found
// without one.
func inside(t *testing.T, l []api.Object, w want) {
	t.Helper()
	got, err := Path(l, w.base, w.s, true, w.follow)
	if err != api.OK {
		return
	}
	at := got.Dir
	if got.Name == "" {
		at = got.Obj
	}
	if !Beneath(l, at, w.base) {
		t.Errorf("Path(.., %d, %q, true, %v) leads out: %+v", w.base, w.s, w.follow, got)
	}
	if free, err := Path(l, w.base, w.s, false, w.follow); free != got || err != api.OK {
		t.Errorf("Path(.., %d, %q, .., %v) is %+v inside, %+v, %d outside", w.base, w.s, w.follow, got, free, err)
	}
}

// stepByStep: a path in two pieces leads where the whole one leads, if there
// are not too many links for one walk.
func stepByStep(t *testing.T, l []api.Object, w want, more string) {
	t.Helper()
	whole := w.s + "/" + more
	parts, abs, err := path.Split(more)
	if err != api.OK || abs || len(parts) == 0 || len(whole) > api.MaxPath {
		return
	}
	first, err := Path(l, w.base, w.s, false, true)
	got, wholeErr := Path(l, w.base, whole, false, w.follow)
	if err != api.OK || first.Obj < 0 || wholeErr == api.ErrLoop {
		return
	}
	second, err := Path(l, first.Obj, more, false, w.follow)
	if second != got || err != wholeErr {
		t.Errorf("Path(.., %d, %q, ..) is %+v, %d; step by step %+v, %d", w.base, whole, got, wholeErr, second, err)
	}
}

// Only what a kind has counts: a link's target and a directory's entries, of
// others they mean nothing.
func TestFieldsOfOtherKinds(t *testing.T) {
	for _, kind := range []int{api.ObjFile, api.ObjEnd, api.ObjProc, 6, -1} {
		o := api.Object{Kind: kind, Target: "x", Entries: []api.Entry{{Name: "x", Obj: 0}}}
		l := []api.Object{dir(0), o}
		lay(l, 0, "o", 1)
		checkAll(t, l, 0, "o", found(1, 0, "o"), api.OK)
		checkAll(t, l, 0, "o/x", none, api.ErrDir)
		checkAll(t, l, 1, "x", none, api.ErrDir)
	}
	l := []api.Object{dir(0), {Kind: api.ObjLink, Target: ".", Entries: []api.Entry{{Name: "x", Obj: 0}}, Up: 7}, dir(0)}
	l[2].Target = "o"
	lay(l, 0, "o", 1)
	lay(l, 0, "d", 2)
	checkAll(t, l, 0, "o/x", found(-1, 0, "x"), api.OK)
	checkAll(t, l, 0, "d/x", found(-1, 2, "x"), api.OK)
}

// roomy lays something behind each list, that no call may look at.
func roomy(l []api.Object) []api.Object {
	out := append(slices.Clone(l), dir(0), dir(0))[:len(l)]
	for at := range out {
		entries := out[at].Entries
		out[at].Entries = append(slices.Clone(entries), api.Entry{Name: "new", Obj: 0})[:len(entries)]
	}
	return out
}

func told(l []api.Object) string {
	var out []string
	for _, o := range l[:cap(l)] {
		out = append(out, fmt.Sprintf("%+v %+v", o, o.Entries[:cap(o.Entries)]))
	}
	return strings.Join(out, "\n")
}

func TestHandedInIsOnlyRead(t *testing.T) {
	plain := with(some(), a, "d", "b", "up", "..", "abs", "/a", "loop", "loop")
	room := roomy(plain)
	before := told(room)
	for _, s := range []string{".", "..", "d/f", "d", "up/a/b", "abs/b/..", "loop", "new", "b/new", "new/x", "/new"} {
		for _, base := range []int{top, a, b, goneDir, len(room), len(room) + 1} {
			for k := range 4 {
				fence, follow := k%2 == 1, k/2 == 1
				w := want{base: base, s: s, fence: fence, follow: follow}
				w.found, w.err = Path(plain, base, s, fence, follow)
				check(t, room, w)
			}
			if Beneath(room, len(room), base) || Beneath(room, base, len(room)) {
				t.Error("Beneath looks behind the list")
			}
		}
	}
	if told(room) != before {
		t.Error("what was handed in is another one")
	}
}

// None of these is a store; a call answers all the same.
func TestNoCallPanics(t *testing.T) {
	for _, odd := range append([]int{0, 1, 2, 3, 4}, farNumbers...) {
		for _, first := range []api.Object{dir(odd), file(), {}, link("/")} {
			l := []api.Object{first, dir(odd), link("../x"), {}}
			l[1].Entries = []api.Entry{{Name: "x", Obj: odd}, {Name: "l", Obj: 2}, {Name: "", Obj: 1}}
			for _, s := range []string{"/", "/x", "..", "../..", "x", "x/x", "x/..", "l", "l/x", ".", "../x/l"} {
				for base := -1; base < 5; base++ {
					for k := range 4 {
						got, err := Path(l, base, s, k%2 == 1, k/2 == 1)
						if err != api.OK && got != none {
							t.Errorf("beside %d there is %+v", err, got)
						}
						Beneath(l, base, odd)
						Beneath(l, odd, base)
					}
				}
			}
		}
	}
	// A root, or an Up, that is no directory is nowhere to stand.
	l := []api.Object{file(), dir(0), dir(9)}
	check(t, l, want{1, "/", false, false, none, api.ErrDir})
	check(t, l, want{1, "..", false, false, none, api.ErrDir})
	check(t, l, want{2, "..", false, false, none, api.ErrDir})
	check(t, l, want{2, "../x", false, false, none, api.ErrDir})
}
