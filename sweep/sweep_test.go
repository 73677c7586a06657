package sweep

import (
	"fmt"
	"math"
	"slices"
	"strings"
	"testing"

	"ringfence/api"
)

var farNumbers = []int{math.MinInt, math.MinInt + 1, -1 << 32, -2, -1, 1 << 16, 1 << 32, math.MaxInt - 1, math.MaxInt}

// told tells lists without entries alike, be they nil or empty.
func told(x any) string { return fmt.Sprintf("%+v", x) }

func wantSame(t *testing.T, what string, got, want any) {
	t.Helper()
	if told(got) != told(want) {
		t.Errorf("%s is %+v, not %+v", what, got, want)
	}
}

func wantReach(t *testing.T, k api.Kernel, want ...int) {
	t.Helper()
	wantSame(t, fmt.Sprintf("Reach(%+v)", k), Reach(k), want)
}

func wantSweep(t *testing.T, k, want api.Kernel) {
	t.Helper()
	got := Sweep(k)
	wantSame(t, fmt.Sprintf("Sweep(%+v)", k), got, want)
	wantSame(t, "what is swept twice", Sweep(got), got)
}

func entry(name string, obj int) api.Entry { return api.Entry{Name: name, Obj: obj} }

func dir(entries ...api.Entry) api.Object {
	return api.Object{Kind: api.ObjDir, Entries: entries, Peer: -1, Proc: -1, Links: 1}
}

func file(s string) api.Object {
	return api.Object{Kind: api.ObjFile, Data: []byte(s), Peer: -1, Proc: -1}
}

func end(peer int, queue ...api.Message) api.Object {
	return api.Object{Kind: api.ObjEnd, Peer: peer, Proc: -1, Queue: queue}
}

func proc(p int) api.Object { return api.Object{Kind: api.ObjProc, Peer: -1, Proc: p} }

func message(open int) api.Message {
	return api.Message{Data: []byte("m"), Has: true, Cap: api.Cap{Open: open, Rights: 1}}
}

func has(open int) api.Slot {
	return api.Slot{Has: true, Cap: api.Cap{Open: open, Rights: 3}}
}

func live(slots ...api.Slot) api.Proc { return api.Proc{Live: true, Slots: slots} }

func objects(l ...api.Object) []api.Object { return l }

func procs(l ...api.Proc) []api.Proc { return l }

func opens(objs ...int) []api.Open {
	var l []api.Open
	for at, obj := range objs {
		l = append(l, api.Open{Obj: obj, At: at + 1})
	}
	return l
}

// gone is what becomes of an open file that nobody has.
var gone = api.Open{Obj: -1}

// some has what is come to by each way, and what is not.
func some() api.Kernel {
	return api.Kernel{
		Objects: []api.Object{
			0:  dir(entry("d", 1)),
			1:  dir(entry("f", 2)),
			2:  file("by names"),
			3:  file("open"),
			4:  end(5, api.Message{Data: []byte("no capability"), Cap: api.Cap{Open: 3}}, message(2)),
			5:  end(4, message(3)),
			6:  dir(entry("g", 7)),
			7:  file("in a directory that waits"),
			8:  file("nobody's"),
			9:  {},
			10: proc(1),
			11: proc(2),
			12: file("of a process that ends"),
			13: {Kind: api.ObjLink, Target: "d", Peer: -1, Proc: -1},
		},
		Opens: []api.Open{0: {Obj: 3, At: 3}, 1: {Obj: 4}, 2: {Obj: 6}, 3: {Obj: 8, At: 2}, 4: {Obj: 10}, 5: {Obj: 12, At: 5}, 6: {Obj: -1}, 7: {Obj: 13}},
		Procs: procs(live(api.Slot{}, has(0)), live(has(1), has(4)), live(has(5)), api.Proc{Code: 9, Slots: []api.Slot{has(7)}}),
	}
}

func TestReach(t *testing.T) {
	wantReach(t, some(), 0, 1, 2, 3, 4, 6, 7, 10, 12)
	wantReach(t, api.Kernel{Objects: objects(dir())}, 0)
	wantReach(t, api.Kernel{Objects: objects(dir(), file("a"))}, 0)
	wantReach(t, api.Kernel{Objects: objects(dir(entry("a", 3), entry("b", 1)), file("b"), file("none"), file("a"))}, 0, 1, 3)
}

func TestReachGoesByNames(t *testing.T) {
	// Down, never up.
	k := api.Kernel{Objects: objects(dir(), dir(entry("f", 2)), file("f"), dir()), Opens: opens(3), Procs: procs(live(has(0)))}
	k.Objects[3].Up = 1
	wantReach(t, k, 0, 3)
	// Round and round.
	wantReach(t, api.Kernel{Objects: objects(dir(entry("a", 1)), dir(entry("b", 2), entry("c", 1)), dir(entry("d", 0)))}, 0, 1, 2)
	// One that is led to twice is told once.
	k = api.Kernel{Objects: objects(dir(entry("a", 1), entry("b", 1)), file("a")), Opens: opens(1, 1), Procs: procs(live(has(0), has(1), has(1)))}
	wantReach(t, k, 0, 1)
	// A link's target is not gone through, and an end's peer is not in it.
	k = api.Kernel{Objects: objects(dir(entry("l", 1), entry("e", 2)), api.Object{Kind: api.ObjLink, Target: "x"}, end(3), end(2))}
	wantReach(t, k, 0, 1, 2)
}

func TestReachGoesByProcessesThatLive(t *testing.T) {
	k := api.Kernel{Objects: objects(dir(), file("a"), file("b"), file("c")), Opens: opens(1, 2, 3)}
	for _, c := range []struct {
		procs []api.Proc
		want  []int
	}{
		{nil, []int{0}},
		{procs(live()), []int{0}},
		{procs(live(has(1))), []int{0, 2}},
		{procs(api.Proc{Slots: []api.Slot{has(1)}}), []int{0}},
		{procs(api.Proc{Slots: []api.Slot{has(1)}}, live(has(2))), []int{0, 3}},
		{procs(live(api.Slot{Cap: api.Cap{Open: 1, Rights: 3}})), []int{0}},
		{procs(live(api.Slot{}, has(0)), live(has(2), api.Slot{}, has(1))), []int{0, 1, 2, 3}},
		// Without rights one comes there as well.
		{procs(live(api.Slot{Has: true, Cap: api.Cap{Open: 2}})), []int{0, 3}},
		{procs(live(), live(), live(), live(), live(), live(), live(), live(), live(), live(has(0))), []int{0, 1}},
	} {
		k.Procs = c.procs
		wantReach(t, k, c.want...)
	}
}

func TestReachGoesByWhatWaits(t *testing.T) {
	k := api.Kernel{
		Objects: objects(dir(entry("e", 1)), end(-1, message(0), message(1)), end(-1, message(2)), file("f"), file("g")),
		Opens:   opens(2, 3, 4),
	}
	wantReach(t, k, 0, 1, 2, 3, 4)
	k.Objects[1].Queue[0].Has = false
	wantReach(t, k, 0, 1, 3)
	// An end that waits in itself alone is come to by nobody.
	k = api.Kernel{Objects: objects(dir(), end(2, message(1)), end(1, message(0))), Opens: opens(1, 2), Procs: procs(live())}
	wantReach(t, k, 0)
}

// What a kind has not means nothing: only directories have entries, and only
// ends have a queue.
func TestReachOfOtherKinds(t *testing.T) {
	for _, kind := range []int{api.ObjFile, api.ObjDir, api.ObjLink, api.ObjEnd, api.ObjProc, 6, -1} {
		o := api.Object{Kind: kind, Entries: []api.Entry{entry("a", 2)}, Queue: []api.Message{message(0)}, Peer: 4, Proc: 0}
		k := api.Kernel{Objects: objects(dir(entry("o", 1)), o, file("entered"), file("waiting"), end(1)), Opens: opens(3)}
		switch kind {
		case api.ObjDir:
			wantReach(t, k, 0, 1, 2)
		case api.ObjEnd:
			wantReach(t, k, 0, 1, 3)
		default:
			wantReach(t, k, 0, 1)
		}
	}
}

func TestWhatIsNoneLeadsNowhere(t *testing.T) {
	wantReach(t, api.Kernel{})
	wantReach(t, api.Kernel{Objects: objects(api.Object{}), Opens: opens(0), Procs: procs(live(has(0)))})
	wantReach(t, api.Kernel{Opens: opens(0, 1), Procs: procs(live(has(0), has(1)))})
	for _, far := range append([]int{2, 3, 4}, farNumbers...) {
		// As an object: of an entry, of an open file that is had, and of one that waits.
		k := api.Kernel{Objects: objects(dir(entry("f", far), entry("g", 1)), file("g"), api.Object{}), Opens: opens(far), Procs: procs(live(has(0)))}
		wantReach(t, k, 0, 1)
		k = api.Kernel{Objects: objects(dir(entry("e", 1)), end(-1, message(0)), api.Object{}), Opens: opens(far)}
		wantReach(t, k, 0, 1)
		// As an open file.
		k = api.Kernel{Objects: objects(dir(entry("e", 1)), end(-1, message(far)), file("f")), Opens: opens(2), Procs: procs(live(has(far)))}
		wantReach(t, k, 0, 1)
	}
}

// A number that is free has nothing in it, whatever stands there.
func TestWhatIsFreeLeadsNowhere(t *testing.T) {
	k := api.Kernel{
		Objects: objects(dir(entry("a", 1)), api.Object{Entries: []api.Entry{entry("b", 2)}, Queue: []api.Message{message(0)}}, file("b"), file("c")),
		Opens:   opens(3),
	}
	wantReach(t, k, 0)
	wantSweep(t, k, api.Kernel{Objects: objects(dir(entry("a", 1)))})
}

func TestSweep(t *testing.T) {
	want := some()
	want.Objects = want.Objects[:11]
	want.Objects[4].Peer = -1
	for _, at := range []int{5, 8} {
		want.Objects[at] = api.Object{}
	}
	want.Opens = want.Opens[:5]
	want.Opens[3] = gone
	want.Procs = want.Procs[:2]
	wantSweep(t, some(), want)
}

func TestSweepOfLittle(t *testing.T) {
	wantSweep(t, api.Kernel{}, api.Kernel{})
	wantSweep(t, api.Kernel{Objects: objects(dir()), Procs: procs(live())}, api.Kernel{Objects: objects(dir()), Procs: procs(live())})
	// Number 0 stays, of objects and of processes, but not of open files.
	k := api.Kernel{Objects: objects(api.Object{}), Opens: opens(0), Procs: procs(api.Proc{})}
	wantSweep(t, k, api.Kernel{Objects: objects(api.Object{}), Procs: procs(api.Proc{})})
	k = api.Kernel{Objects: objects(dir(), api.Object{}, api.Object{}), Opens: opens(-1, -1), Procs: procs(api.Proc{Code: 7, Fenced: true}, api.Proc{}, api.Proc{Code: 3})}
	wantSweep(t, k, api.Kernel{Objects: objects(dir()), Procs: procs(api.Proc{Code: 7, Fenced: true})})
}

// Example 8: a file that no name leads to, and nobody has open, goes.
func TestFileThatNobodyComesToGoes(t *testing.T) {
	k := api.Kernel{Objects: objects(dir(entry("f", 1)), file("f")), Opens: opens(1), Procs: procs(live(has(0)))}
	wantSweep(t, k, k)
	named := api.Kernel{Objects: k.Objects, Opens: k.Opens, Procs: procs(live())}
	wantSweep(t, named, api.Kernel{Objects: k.Objects, Procs: procs(live())})
	open := api.Kernel{Objects: objects(dir(), file("f")), Opens: k.Opens, Procs: k.Procs}
	wantSweep(t, open, open)
	wantSweep(t, api.Kernel{Objects: open.Objects, Opens: k.Opens, Procs: procs(live())}, api.Kernel{Objects: objects(dir()), Procs: procs(live())})
}

// Links and Up, that tell of names, don't hold an object, nor do they go by the sweep.
func TestLinksDontHold(t *testing.T) {
	kept := api.Object{Kind: api.ObjDir, Peer: -1, Proc: -1, Up: 1}
	k := api.Kernel{
		Objects: objects(dir(), api.Object{Kind: api.ObjDir, Links: 5, Up: 0, Entries: []api.Entry{entry("k", 2)}}, kept),
		Opens:   opens(2), Procs: procs(live(has(0))),
	}
	wantSweep(t, k, api.Kernel{Objects: objects(dir(), api.Object{}, kept), Opens: k.Opens, Procs: k.Procs})
}

func TestWhatIsFreeIsZero(t *testing.T) {
	full := api.Object{
		Kind: api.ObjEnd, Data: []byte("a"), Entries: []api.Entry{entry("a", 1)}, Target: "t", Peer: 2,
		Queue: []api.Message{message(0)}, Proc: 1, Links: 3, Up: 4,
	}
	left := full
	left.Kind = 0
	k := api.Kernel{Objects: objects(dir(entry("z", 3)), full, left, file("z"), full, left)}
	wantSweep(t, k, api.Kernel{Objects: objects(dir(entry("z", 3)), api.Object{}, api.Object{}, file("z"))})
}

func TestPeers(t *testing.T) {
	both := api.Kernel{Objects: objects(dir(), end(2), end(1)), Opens: opens(1, 2), Procs: procs(live(has(0), has(1)))}
	wantSweep(t, both, both)
	for at, c := range []struct{ slot, gone, stays int }{{0, 2, 1}, {1, 1, 2}} {
		k := Own(both)
		k.Procs[0].Slots = []api.Slot{has(c.slot)}
		want := Own(k)
		want.Objects[c.gone], want.Objects[c.stays].Peer = api.Object{}, -1
		want.Objects, want.Opens = want.Objects[:c.stays+1], want.Opens[:at+1]
		if at == 1 {
			want.Opens[0] = gone
		}
		wantSweep(t, k, want)
	}
	// What waits behind an end that has gone stays; what waits at it goes with it.
	k := api.Kernel{
		Objects: objects(dir(), end(2, message(2)), end(1, message(3)), file("stays"), file("goes")),
		Opens:   opens(1, 2, 3, 4), Procs: procs(live(has(0))),
	}
	want := api.Kernel{Objects: objects(dir(), end(-1, message(2)), api.Object{}, file("stays")), Opens: opens(1, 0, 3), Procs: k.Procs}
	want.Opens[1] = gone
	wantSweep(t, k, want)
	// An end may be its own peer.
	self := api.Kernel{Objects: objects(dir(), end(1)), Opens: opens(1), Procs: procs(live(has(0)))}
	wantSweep(t, self, self)
}

// Only an end's Peer tells anything, and only of what is in the list.
func TestPeersOfOthers(t *testing.T) {
	for _, kind := range []int{api.ObjFile, api.ObjDir, api.ObjLink, api.ObjProc, 6} {
		o := api.Object{Kind: kind, Peer: 2, Proc: -1}
		k := api.Kernel{Objects: objects(dir(entry("o", 1)), o, file("goes"))}
		wantSweep(t, k, api.Kernel{Objects: objects(dir(entry("o", 1)), o)})
	}
	for _, far := range append([]int{3}, farNumbers...) {
		k := api.Kernel{Objects: objects(dir(entry("o", 1)), end(far))}
		wantSweep(t, k, k)
	}
	k := api.Kernel{Objects: objects(dir(entry("a", 1), entry("z", 3)), end(2), api.Object{}, file("z"))}
	wantSweep(t, k, api.Kernel{Objects: objects(dir(entry("a", 1), entry("z", 3)), end(-1), api.Object{}, file("z"))})
}

func TestOpenFiles(t *testing.T) {
	k := api.Kernel{
		Objects: objects(dir(entry("a", 1), entry("e", 2)), file("a"), end(-1, message(4), api.Message{Cap: api.Cap{Open: 5}})),
		Opens:   opens(1, 1, 0, 1, 0, 1, 0, 2),
		Procs:   procs(live(has(6), api.Slot{Cap: api.Cap{Open: 2}}, has(1)), api.Proc{Slots: []api.Slot{has(3)}}),
	}
	want := Own(k)
	for _, at := range []int{0, 2, 3, 5} {
		want.Opens[at] = gone
	}
	want.Opens, want.Procs = want.Opens[:7], want.Procs[:1]
	wantSweep(t, k, want)
	// Those that are not at the end keep their numbers.
	k.Procs = procs(live(has(7)))
	want.Opens, want.Procs = opens(0, 0, 0, 0, 0, 0, 0, 2), k.Procs
	for _, at := range []int{0, 1, 2, 3, 5, 6} {
		want.Opens[at] = gone
	}
	wantSweep(t, k, want)
}

// What waits in an end that one can't come to holds no open file.
func TestOpenFilesThatWaitForNobody(t *testing.T) {
	k := api.Kernel{Objects: objects(dir(entry("a", 1)), file("a"), end(-1, message(0))), Opens: opens(1), Procs: procs(live())}
	wantSweep(t, k, api.Kernel{Objects: objects(dir(entry("a", 1)), file("a")), Procs: procs(live())})
	// Nor does what stands in the queue of what is no end.
	k.Objects[1].Queue = []api.Message{message(0)}
	wantSweep(t, k, api.Kernel{Objects: k.Objects[:2], Procs: procs(live())})
}

// An open file that is had stays as it is, even if it is of no object, but for
// Obj -1 at the end of the list.
func TestOpenFilesOfNoObject(t *testing.T) {
	k := api.Kernel{Objects: objects(dir()), Opens: opens(-1, 9, -2, -3), Procs: procs(live(has(0), has(1), has(2)))}
	wantSweep(t, k, api.Kernel{Objects: k.Objects, Opens: opens(-1, 9, -2), Procs: k.Procs})
	k.Opens = opens(9, -1, -1)
	wantSweep(t, k, api.Kernel{Objects: k.Objects, Opens: opens(9), Procs: k.Procs})
	for _, far := range farNumbers {
		k.Procs = procs(live(has(far)))
		wantSweep(t, k, api.Kernel{Objects: k.Objects, Procs: k.Procs})
	}
}

func TestProcessesEnd(t *testing.T) {
	k := api.Kernel{
		Objects: objects(dir(), proc(1), proc(2)),
		Opens:   opens(1, 2),
		Procs:   procs(live(has(0)), live(), live()),
	}
	wantSweep(t, k, api.Kernel{Objects: k.Objects[:2], Opens: k.Opens[:1], Procs: k.Procs[:2]})
	// What ends in between leaves noughts there, and its numbers free.
	k.Procs = procs(live(has(1)), api.Proc{Live: true, Fenced: true, Code: 3, Slots: []api.Slot{{}, {}}}, live())
	want := api.Kernel{Objects: objects(dir(), api.Object{}, proc(2)), Opens: opens(0, 2), Procs: procs(live(has(1)), api.Proc{}, live())}
	want.Opens[0] = gone
	wantSweep(t, k, want)
	// One holds the other one: neither ends.
	k.Procs = procs(live(), live(has(1)), live(has(0)))
	wantSweep(t, k, k)
	// Each one has its own object: so it lives on.
	k.Procs = procs(live(), live(has(0)), live(has(1)))
	wantSweep(t, k, k)
	// Of number 0 there need be no object.
	k = api.Kernel{Objects: objects(dir()), Opens: opens(0), Procs: procs(live(has(0)))}
	wantSweep(t, k, k)
	// An object that waits, or has a name, holds its process too.
	k = api.Kernel{Objects: objects(dir(entry("e", 1), entry("p", 3)), end(-1, message(0)), proc(1), proc(2)), Opens: opens(2), Procs: procs(live(), live(), live())}
	wantSweep(t, k, k)
	// Two objects may be of one process.
	k = api.Kernel{Objects: objects(dir(entry("p", 2)), proc(1), proc(1)), Procs: procs(live(), live())}
	wantSweep(t, k, api.Kernel{Objects: objects(dir(entry("p", 2)), api.Object{}, proc(1)), Procs: k.Procs})
}

// Only what is of Kind ObjProc is of a process.
func TestOtherKindsHoldNoProcess(t *testing.T) {
	for _, kind := range []int{api.ObjFile, api.ObjDir, api.ObjLink, api.ObjEnd, 6, -1} {
		k := api.Kernel{Objects: objects(dir(entry("p", 1)), api.Object{Kind: kind, Peer: -1, Proc: 1}), Procs: procs(live(), live())}
		wantSweep(t, k, api.Kernel{Objects: k.Objects, Procs: procs(live())})
		k.Procs[1].Live = false
		wantSweep(t, k, api.Kernel{Objects: k.Objects, Procs: procs(live())})
	}
	for _, far := range append([]int{2}, farNumbers...) {
		k := api.Kernel{Objects: objects(dir(entry("p", 1)), proc(far)), Procs: procs(live(), live())}
		wantSweep(t, k, api.Kernel{Objects: k.Objects, Procs: procs(live())})
	}
}

// Each process has the next one's object alone: they end one behind the other.
func TestProcessesEndOneBehindTheOther(t *testing.T) {
	const n = 300
	for _, holds := range []bool{true, false} {
		k := api.Kernel{Objects: objects(dir()), Procs: procs(live())}
		for p := 1; p < n; p++ {
			k.Objects = append(k.Objects, proc(p))
			k.Opens = append(k.Opens, api.Open{Obj: p})
			k.Procs = append(k.Procs, live(has(p)))
		}
		k.Procs[n-1] = live()
		if holds {
			k.Procs[0] = live(has(0))
			wantSweep(t, k, k)
		} else {
			wantSweep(t, k, api.Kernel{Objects: objects(dir()), Procs: procs(live())})
		}
	}
}

// What a process that ends alone had goes by the same sweep, ends' peers too.
func TestWhatEndedProcessesHadGoes(t *testing.T) {
	k := api.Kernel{
		Objects: objects(dir(), end(2, message(2)), end(1), proc(1), file("waits")),
		Opens:   opens(1, 2, 4),
		Procs:   procs(live(has(1)), live(has(0))),
	}
	want := api.Kernel{Objects: objects(dir(), api.Object{}, end(-1)), Opens: opens(0, 2), Procs: procs(live(has(1)))}
	want.Opens[0] = gone
	wantSweep(t, k, want)
}

func TestProcessesThatDontLive(t *testing.T) {
	dead := api.Proc{Fenced: true, Code: 7, Slots: []api.Slot{has(0)}}
	k := api.Kernel{Objects: objects(dir(), proc(3)), Opens: opens(1), Procs: procs(live(has(0)), dead, api.Proc{}, dead, dead)}
	// Its Code is to be waited for, as long as one has its object.
	wantSweep(t, k, api.Kernel{Objects: k.Objects, Opens: k.Opens, Procs: procs(live(has(0)), api.Proc{}, api.Proc{}, dead)})
	k.Procs[0] = live()
	wantSweep(t, k, api.Kernel{Objects: objects(dir()), Procs: procs(live())})
	// What does not live holds nothing, number 0 neither, but that stays as it was.
	k.Procs[0] = dead
	wantSweep(t, k, api.Kernel{Objects: objects(dir()), Procs: procs(dead)})
	// One that lives, at the end, holds back those ahead of it.
	k = api.Kernel{Objects: objects(dir(entry("p", 1)), proc(2)), Procs: procs(live(), dead, live())}
	wantSweep(t, k, api.Kernel{Objects: k.Objects, Procs: procs(live(), api.Proc{}, live())})
	// An object of process 0 is one like another.
	k = api.Kernel{Objects: objects(dir(entry("p", 1)), proc(0)), Procs: procs(dead, dead)}
	wantSweep(t, k, api.Kernel{Objects: k.Objects, Procs: procs(dead)})
}

// Far more than a kernel may have: the sweep ends all the same.
func TestLongWays(t *testing.T) {
	const n = 1 << 16
	k := api.Kernel{Procs: procs(live(has(0)))}
	for at := range n {
		k.Objects = append(k.Objects, dir(entry("a", at+1)))
	}
	k.Objects[n-1] = end(-1, message(1))
	k.Opens = opens(0, n)
	k.Objects = append(k.Objects, file("the last one"), file("nobody's"))
	all := Reach(k)
	if len(all) != n+1 || all[n] != n {
		t.Errorf("Reach finds %d objects of %d", len(all), n+1)
	}
	if got := Sweep(k); len(got.Objects) != n+1 || len(got.Opens) != 2 {
		t.Errorf("Sweep leaves %d objects, %d open files", len(got.Objects), len(got.Opens))
	}
}

// odd has whatever a kernel may not have.
func odd() api.Kernel {
	return api.Kernel{
		Objects: objects(
			api.Object{Kind: 9, Data: []byte{0}, Entries: []api.Entry{entry("z", -3), entry("a", 99)}, Target: "//", Peer: -7, Queue: []api.Message{{}}, Proc: -8, Links: -9, Up: math.MaxInt},
			api.Object{Links: 3}, end(math.MinInt, message(-1), message(math.MaxInt)), proc(math.MinInt),
		),
		Opens: []api.Open{{Obj: -5, At: -6}, {Obj: math.MaxInt, At: math.MinInt}, {Obj: 2}},
		Procs: procs(api.Proc{Code: -1, Slots: []api.Slot{{Cap: api.Cap{Open: -2, Rights: -3}}, has(-1), has(math.MaxInt), has(math.MinInt)}}, api.Proc{}, live(has(-9), has(2))),
	}
}

func TestOwn(t *testing.T) {
	for _, k := range []api.Kernel{{}, {Objects: objects(), Opens: []api.Open{}, Procs: procs()}, some(), odd()} {
		wantSame(t, "Own", Own(k), k)
	}
	for at := range some().Procs {
		k := some()
		own := Own(k)
		own.Procs[at] = api.Proc{Code: 99}
		wantSame(t, "what Own was handed", k, some())
	}
}

// numbers are the same ones each time, so that a failure can be looked at again.
func numbers() func(below int) int {
	state := uint64(20261118)
	return func(below int) int {
		state = state*6364136223846793005 + 1442695040888963407
		return int((state >> 33) % uint64(below))
	}
}

// anyKernel leads here and there, sometimes to what is none.
func anyKernel(next func(int) int) api.Kernel {
	objs, files, ps := next(9), next(7), next(5)
	to := func(n int) int { return next(n+2) - 1 }
	slot := func() api.Slot {
		return api.Slot{Has: next(4) > 0, Cap: api.Cap{Open: to(files), Rights: next(4096)}}
	}
	var k api.Kernel
	for at := range objs {
		o := api.Object{Kind: next(6), Peer: to(objs), Proc: to(ps), Links: next(3), Up: to(objs), Data: []byte("d")}
		if at == 0 && next(8) > 0 {
			o.Kind = api.ObjDir
		}
		for range next(3) {
			o.Entries = append(o.Entries, entry(fmt.Sprint(len(o.Entries)), to(objs)))
		}
		for range next(3) {
			s := slot()
			o.Queue = append(o.Queue, api.Message{Has: s.Has, Cap: s.Cap})
		}
		k.Objects = append(k.Objects, o)
	}
	for range files {
		k.Opens = append(k.Opens, api.Open{Obj: to(objs), At: next(5)})
	}
	for range ps {
		p := api.Proc{Live: next(3) > 0, Fenced: next(2) > 0, Code: next(3)}
		for range next(3) {
			p.Slots = append(p.Slots, slot())
		}
		k.Procs = append(k.Procs, p)
	}
	return k
}

// model goes over a whole kernel again and again, until nothing is new.
type model struct{ objects, opens map[int]int }

func come(k api.Kernel) model {
	m := model{map[int]int{}, map[int]int{}}
	m.object(k, 0)
	for before := -1; before < len(m.objects)+len(m.opens); {
		before = len(m.objects) + len(m.opens)
		for _, p := range k.Procs {
			for _, s := range p.Slots {
				if p.Live && s.Has {
					m.open(k, s.Cap.Open)
				}
			}
		}
		for at, o := range k.Objects {
			if _, there := m.objects[at]; !there {
				continue
			}
			for _, e := range o.Entries {
				if o.Kind == api.ObjDir {
					m.object(k, e.Obj)
				}
			}
			for _, w := range o.Queue {
				if o.Kind == api.ObjEnd && w.Has {
					m.open(k, w.Cap.Open)
				}
			}
		}
	}
	return m
}

func (m model) object(k api.Kernel, at int) {
	if at >= 0 && at < len(k.Objects) && k.Objects[at].Kind != 0 {
		m.objects[at] = 1
	}
}

func (m model) open(k api.Kernel, at int) {
	if at >= 0 && at < len(k.Opens) {
		m.opens[at] = 1
		m.object(k, k.Opens[at].Obj)
	}
}

func (m model) hasProc(k api.Kernel, p int) bool {
	for at, o := range k.Objects {
		if _, there := m.objects[at]; there && o.Kind == api.ObjProc && o.Proc == p {
			return true
		}
	}
	return false
}

// swept lets one process end at a time, and only then looks what is left: by
// another way than the program's.
func swept(k api.Kernel) (api.Kernel, int) {
	k.Procs = slices.Clone(k.Procs)
	ends := 0
	m := come(k)
	for p := len(k.Procs) - 1; p > 0; p-- {
		if k.Procs[p].Live && !m.hasProc(k, p) {
			k.Procs[p] = api.Proc{}
			ends++
			m = come(k)
			p = len(k.Procs)
		}
	}
	var out api.Kernel
	for at, o := range k.Objects {
		_, there := m.objects[at]
		if !there {
			out.Objects = append(out.Objects, api.Object{})
			continue
		}
		if _, there := m.objects[o.Peer]; o.Kind == api.ObjEnd && !there && o.Peer >= 0 && o.Peer < len(k.Objects) {
			o.Peer = -1
		}
		out.Objects = append(out.Objects, o)
	}
	for at, o := range k.Opens {
		if _, there := m.opens[at]; !there {
			o = api.Open{Obj: -1}
		}
		out.Opens = append(out.Opens, o)
	}
	for p, o := range k.Procs {
		if p > 0 && !o.Live && !m.hasProc(k, p) {
			o = api.Proc{}
		}
		out.Procs = append(out.Procs, o)
	}
	return cut(out, m), ends
}

func cut(k api.Kernel, m model) api.Kernel {
	for n := len(k.Objects); n > 1 && k.Objects[n-1].Kind == 0; n-- {
		k.Objects = k.Objects[:n-1]
	}
	for n := len(k.Opens); n > 0 && k.Opens[n-1].Obj == -1; n-- {
		k.Opens = k.Opens[:n-1]
	}
	for n := len(k.Procs); n > 1 && !k.Procs[n-1].Live && !m.hasProc(k, n-1); n-- {
		k.Procs = k.Procs[:n-1]
	}
	return k
}

func TestAnything(t *testing.T) {
	next := numbers()
	counts := map[int]int{}
	for range 4000 {
		k := anyKernel(next)
		var all []int
		m := come(k)
		for at := range k.Objects {
			if _, there := m.objects[at]; there {
				all = append(all, at)
			}
		}
		wantReach(t, k, all...)
		want, ends := swept(k)
		wantSweep(t, k, want)
		wantSame(t, "Own", Own(k), k)
		if counts[ends]++; t.Failed() {
			return
		}
	}
	for ends := range 4 {
		if counts[ends] < 50 {
			t.Errorf("%d processes ended %d times: these tell little", ends, counts[ends])
		}
	}
}

// roomy lays something behind each list, so that it shows if a call looks at
// it, or writes there.
func roomy(k api.Kernel) api.Kernel {
	k.Objects = behind(k.Objects, dir(entry("behind", 8)), proc(1), proc(3))
	for at := range k.Objects {
		o := &k.Objects[at]
		o.Data = behind(o.Data, 'B', 'B')
		o.Entries = behind(o.Entries, entry("behind", 8), entry("behinds", 5))
		o.Queue = behind(o.Queue, message(3), message(7))
		for i := range o.Queue {
			o.Queue[i].Data = behind(o.Queue[i].Data, 'B', 'B')
		}
	}
	k.Opens = behind(k.Opens, api.Open{Obj: 8}, api.Open{Obj: 5})
	k.Procs = behind(k.Procs, live(has(3)), live(has(7)))
	for at := range k.Procs {
		k.Procs[at].Slots = behind(k.Procs[at].Slots, has(3), has(7))
	}
	return k
}

func behind[T any](l []T, more ...T) []T {
	return append(slices.Clone(l), more...)[:len(l)]
}

// each goes through all lists of a kernel, with their spare room.
func each(k api.Kernel, data func([]byte), entries func([]api.Entry), queue func([]api.Message), slots func([]api.Slot), rest func([]api.Object, []api.Open, []api.Proc)) {
	for _, o := range k.Objects[:cap(k.Objects)] {
		data(o.Data[:cap(o.Data)])
		entries(o.Entries[:cap(o.Entries)])
		for _, m := range o.Queue[:cap(o.Queue)] {
			data(m.Data[:cap(m.Data)])
		}
		queue(o.Queue[:cap(o.Queue)])
	}
	for _, p := range k.Procs[:cap(k.Procs)] {
		slots(p.Slots[:cap(p.Slots)])
	}
	rest(k.Objects[:cap(k.Objects)], k.Opens[:cap(k.Opens)], k.Procs[:cap(k.Procs)])
}

func whole(k api.Kernel) string {
	var out []string
	add := func(x any) { out = append(out, told(x)) }
	each(k,
		func(l []byte) { add(l) }, func(l []api.Entry) { add(l) }, func(l []api.Message) { add(l) }, func(l []api.Slot) { add(l) },
		func(o []api.Object, f []api.Open, p []api.Proc) { add(o); add(f); add(p) })
	return strings.Join(out, "\n")
}

func fill[T any](l []T, with T) {
	for at := range l {
		l[at] = with
	}
}

func spoil(k api.Kernel) {
	each(k,
		func(l []byte) { fill(l, '!') }, func(l []api.Entry) { fill(l, entry("!", -9)) },
		func(l []api.Message) { fill(l, api.Message{Cap: api.Cap{Open: -9}}) }, func(l []api.Slot) { fill(l, has(-9)) },
		func(o []api.Object, f []api.Open, p []api.Proc) {
			fill(o, api.Object{Kind: -9})
			fill(f, api.Open{Obj: -9})
			fill(p, api.Proc{Code: -9})
		})
}

func TestHandedInIsOnlyRead(t *testing.T) {
	k := roomy(some())
	before := whole(k)
	wantSame(t, "Own", Own(k), some())
	wantSame(t, "Reach", Reach(k), Reach(some()))
	wantSame(t, "Sweep", Sweep(k), Sweep(some()))
	if whole(k) != before {
		t.Error("what was handed in is another one")
	}
}

func TestNothingIsKept(t *testing.T) {
	k := roomy(some())
	own, all, clean := Own(k), Reach(k), Sweep(k)
	spoil(k)
	wantSame(t, "Own", own, some())
	wantSame(t, "Reach", all, Reach(some()))
	wantSame(t, "Sweep", clean, Sweep(some()))
}

func TestAnswersAreNew(t *testing.T) {
	k := roomy(some())
	before := whole(k)
	spoil(Own(k))
	spoil(Sweep(k))
	all := Reach(k)
	fill(all[:cap(all)], -9)
	if whole(k) != before {
		t.Error("answers share memory with what was handed in")
	}
}

// Objects and processes that were handed in with one list for all of them
// have one each.
func TestAnswersShareNothing(t *testing.T) {
	k := some()
	k.Objects[3].Data = k.Objects[2].Data
	k.Objects[6].Entries = k.Objects[1].Entries
	k.Objects[5].Queue = k.Objects[4].Queue
	k.Procs[0].Slots = k.Procs[1].Slots
	for name, call := range map[string]func(api.Kernel) api.Kernel{"Own": Own, "Sweep": Sweep} {
		want := told(call(k))
		for at := range call(k).Objects {
			got := call(k)
			kept := got.Objects[at]
			got.Objects[at] = api.Object{}
			rest := told(got)
			spoil(api.Kernel{Objects: []api.Object{kept}})
			wantSame(t, "the rest of what "+name+" answers", told(got), rest)
		}
		got := call(k)
		fill(got.Procs[0].Slots, has(-9))
		got.Procs[0].Slots = call(k).Procs[0].Slots
		wantSame(t, "the rest of what "+name+" answers", told(got), want)
	}
}

func TestNoCallPanics(t *testing.T) {
	Own(odd())
	Reach(odd())
	Sweep(odd())
	wantReach(t, odd(), 0, 2)
}
