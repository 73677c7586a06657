package procs

import (
	"fmt"
	"math"
	"slices"
	"strings"
	"testing"

	"ringfence/api"
	"ringfence/channel"
	"ringfence/store"
	"ringfence/sweep"
	"ringfence/table"
)

var farNumbers = []int{math.MinInt, math.MinInt + 1, -1 << 32, -2, -1, 1 << 16, 1 << 32, math.MaxInt - 1, math.MaxInt}

var noSets = []int{math.MinInt, -4096, -1, api.Every + 1, 1 << 32, math.MaxInt}

// told tells lists without entries alike, be they nil or empty.
func told(x any) string { return fmt.Sprintf("%+v", x) }

func wantSame(t *testing.T, what string, got, want any) {
	t.Helper()
	if told(got) != told(want) {
		t.Errorf("%s is %+v, not %+v", what, got, want)
	}
}

func has(open, rights int) api.Slot {
	return api.Slot{Has: true, Cap: api.Cap{Open: open, Rights: rights}}
}

// ofChild is a slot with what a parent has of its child.
func ofChild(open int) api.Slot { return has(open, 1024+2048+128) }

func live(slots ...api.Slot) api.Proc { return api.Proc{Live: true, Slots: slots} }

func dir() api.Object { return api.Object{Kind: api.ObjDir, Peer: -1, Proc: -1, Links: 1} }

func file(s string) api.Object {
	return api.Object{Kind: api.ObjFile, Data: []byte(s), Peer: -1, Proc: -1}
}

func proc(p int) api.Object { return api.Object{Kind: api.ObjProc, Peer: -1, Proc: p} }

func opens(objs ...int) []api.Open {
	var l []api.Open
	for _, obj := range objs {
		l = append(l, api.Open{Obj: obj})
	}
	return l
}

func booted() api.Kernel {
	return api.Kernel{Objects: []api.Object{dir()}, Opens: opens(0), Procs: []api.Proc{live(has(0, 4095))}}
}

// with answers a copy with something else in it, swept.
func with(k api.Kernel, change func(own *api.Kernel)) api.Kernel {
	own := sweep.Own(k)
	change(&own)
	return sweep.Sweep(own)
}

func withSlots(k api.Kernel, p int, slots ...api.Slot) api.Kernel {
	return with(k, func(own *api.Kernel) { own.Procs[p].Slots = slots })
}

func fenced(k api.Kernel, p int) api.Kernel {
	return with(k, func(own *api.Kernel) { own.Procs[p].Fenced = true })
}

// forked is what comes of it that these processes fork, one behind the other.
func forked(t *testing.T, k api.Kernel, parents ...int) api.Kernel {
	t.Helper()
	for _, p := range parents {
		got, _, _, err := Fork(k, p)
		if err != api.OK {
			t.Fatalf("process %d of %+v does not fork: %d", p, k, err)
		}
		k = got
	}
	return k
}

// exited is what comes of it that these processes exit, each one with its
// number and 100.
func exited(t *testing.T, k api.Kernel, gone ...int) api.Kernel {
	t.Helper()
	for _, p := range gone {
		got, err := Exit(k, p, 100+p)
		if err != api.OK {
			t.Fatalf("process %d of %+v does not exit: %d", p, k, err)
		}
		k = sweep.Sweep(got)
	}
	return k
}

// withFile has process p have a file more, as calls would make it.
func withFile(t *testing.T, k api.Kernel, p int, s string, rights int) api.Kernel {
	t.Helper()
	l, obj, err := store.Make(k.Objects, file(s))
	if err != api.OK {
		t.Fatalf("no file is made: %d", err)
	}
	k.Objects = l
	k, _, err = Opened(k, p, obj, rights)
	if err != api.OK {
		t.Fatalf("file %d is not opened: %d", obj, err)
	}
	return k
}

func wantOpened(t *testing.T, k api.Kernel, p, obj, rights int, want api.Kernel, wantFD int) {
	t.Helper()
	got, fd, err := Opened(k, p, obj, rights)
	wantSame(t, fmt.Sprintf("Opened(%+v, %d, %d, %d)", k, p, obj, rights), []any{got, fd, err}, []any{want, wantFD, api.OK})
}

func refuseOpened(t *testing.T, k api.Kernel, p, obj, rights int, wantErr api.Errno) {
	t.Helper()
	got, fd, err := Opened(k, p, obj, rights)
	wantSame(t, fmt.Sprintf("Opened(%+v, %d, %d, %d)", k, p, obj, rights), []any{got, fd, err}, []any{api.Kernel{}, 0, wantErr})
}

func wantFork(t *testing.T, k api.Kernel, p int, want api.Kernel, wantChild, wantFD int) {
	t.Helper()
	got, child, fd, err := Fork(k, p)
	wantSame(t, fmt.Sprintf("Fork(%+v, %d)", k, p), []any{got, child, fd, err}, []any{want, wantChild, wantFD, api.OK})
}

func wantNumber(t *testing.T, k api.Kernel, p, wantChild int) {
	t.Helper()
	_, child, _, err := Fork(k, p)
	wantSame(t, fmt.Sprintf("the child that Fork(%+v, %d) makes", k, p), []any{child, err}, []any{wantChild, api.OK})
}

func refuseFork(t *testing.T, k api.Kernel, p int, wantErr api.Errno) {
	t.Helper()
	got, child, fd, err := Fork(k, p)
	wantSame(t, fmt.Sprintf("Fork(%+v, %d)", k, p), []any{got, child, fd, err}, []any{api.Kernel{}, 0, 0, wantErr})
}

func wantExit(t *testing.T, k api.Kernel, p, code int, want api.Kernel) {
	t.Helper()
	got, err := Exit(k, p, code)
	wantSame(t, fmt.Sprintf("Exit(%+v, %d, %d)", k, p, code), []any{got, err}, []any{want, api.OK})
}

func refuseExit(t *testing.T, k api.Kernel, p, code int, wantErr api.Errno) {
	t.Helper()
	got, err := Exit(k, p, code)
	wantSame(t, fmt.Sprintf("Exit(%+v, %d, %d)", k, p, code), []any{got, err}, []any{api.Kernel{}, wantErr})
}

func TestBoot(t *testing.T) {
	wantSame(t, "Boot()", Boot(), booted())
	wantSame(t, "what Boot() makes, swept,", sweep.Sweep(Boot()), Boot())
	spoil(Boot())
	wantSame(t, "Boot() behind another one that was changed", Boot(), booted())
}

func TestLive(t *testing.T) {
	k := exited(t, forked(t, Boot(), 0, 0, 0), 2)
	for p, want := range []bool{true, true, false, true, false, false} {
		wantSame(t, fmt.Sprint("Live of ", p), Live(k, p), want)
	}
	for _, p := range farNumbers {
		wantSame(t, fmt.Sprint("Live of ", p), Live(k, p), false)
	}
	wantSame(t, "Live of what has exited first", Live(exited(t, Boot(), 0), 0), false)
	wantSame(t, "Live in a kernel of nothing", Live(api.Kernel{}, 0), false)
}

func TestOpened(t *testing.T) {
	k := booted()
	k.Opens, k.Procs = opens(0, 0), []api.Proc{live(has(0, 4095), has(1, 9))}
	wantOpened(t, Boot(), 0, 0, 9, k, 1)
	for _, rights := range []int{0, 1, 2048, 1365, 4095} {
		k.Procs[0].Slots[1].Cap.Rights = rights
		wantOpened(t, Boot(), 0, 0, rights, k, 1)
	}
}

// Of another process, and of another object, nothing else is another one.
func TestOpenedByAnyProcessOfAnyObject(t *testing.T) {
	k := withFile(t, forked(t, Boot(), 0, 1), 2, "f", 3)
	for p := range 3 {
		for obj := range 4 {
			want := sweep.Own(k)
			want.Opens = append(want.Opens, api.Open{Obj: obj})
			want.Procs[p].Slots = append(want.Procs[p].Slots, has(4, 7))
			wantOpened(t, k, p, obj, 7, want, len(k.Procs[p].Slots))
		}
	}
}

func TestOpenedTakesTheFirstSlot(t *testing.T) {
	k := withSlots(Boot(), 0, has(0, 4095), api.Slot{}, has(0, 1), api.Slot{}, has(0, 2))
	want := sweep.Own(k)
	want.Opens, want.Procs[0].Slots[1] = opens(0, 0), has(1, 5)
	wantOpened(t, k, 0, 0, 5, want, 1)
	k = withSlots(k, 0, api.Slot{}, has(0, 1))
	want = sweep.Own(k)
	want.Opens, want.Procs[0].Slots[0] = opens(0, 0), has(1, 5)
	wantOpened(t, k, 0, 0, 5, want, 0)
	k = withSlots(k, 0)
	wantOpened(t, k, 0, 0, 5, api.Kernel{Objects: k.Objects, Opens: opens(0), Procs: []api.Proc{live(has(0, 5))}}, 0)
}

// Open files that have gone are taken again, the lowest one first, and are
// read from the beginning on.
func TestOpenedTakesTheFirstOpenFile(t *testing.T) {
	k := Boot()
	for at := range 5 {
		k = withFile(t, k, 0, fmt.Sprint(at), 3)
	}
	k = with(k, func(own *api.Kernel) {
		for at := range own.Opens {
			own.Opens[at].At = 7 + at
		}
	})
	slots := k.Procs[0].Slots
	for a := 1; a < 5; a++ {
		for b := 1; b <= a; b++ {
			kept := slices.Clone(slots)
			kept[a], kept[b] = api.Slot{}, api.Slot{}
			k := withSlots(k, 0, kept...)
			want := sweep.Own(k)
			want.Opens[b] = api.Open{Obj: 0}
			want.Procs[0].Slots[b] = has(b, 9)
			wantOpened(t, k, 0, 0, 9, want, b)
		}
	}
	want := sweep.Own(k)
	want.Opens = append(want.Opens, api.Open{Obj: 5})
	want.Procs[0].Slots = append(want.Procs[0].Slots, has(6, 1))
	wantOpened(t, k, 0, 5, 1, want, 6)
}

// manyOpens has as many processes, children of process 0, and n open files,
// of which those have the most that come first.
func manyOpens(t *testing.T, processes, n int) api.Kernel {
	t.Helper()
	k := forked(t, Boot(), make([]int, processes-1)...)
	for p := 1; p < processes; p++ {
		k = withSlots(k, p)
		for len(k.Procs[p].Slots) < api.MaxSlots && len(k.Opens) < n {
			k, _, _ = Opened(k, p, 0, 3)
		}
	}
	if len(k.Opens) != n {
		t.Fatalf("there are %d open files, not %d", len(k.Opens), n)
	}
	return k
}

func TestOpenedUntilThereAreMaxOpens(t *testing.T) {
	k := manyOpens(t, 8, api.MaxOpens-1)
	want := sweep.Own(k)
	want.Opens = append(want.Opens, api.Open{})
	want.Procs[7].Slots = append(want.Procs[7].Slots, has(api.MaxOpens-1, 1))
	wantOpened(t, k, 7, 0, 1, want, len(k.Procs[7].Slots))
	k = want
	for p := range 8 {
		refuseOpened(t, k, p, 0, 1, api.ErrFull)
	}
	for _, fd := range []int{1, 5, 9} {
		at := k.Procs[3].Slots[fd].Cap.Open
		k := with(k, func(own *api.Kernel) { own.Procs[3].Slots, _ = table.Close(own.Procs[3].Slots, fd) })
		want := sweep.Own(k)
		want.Opens[at] = api.Open{Obj: 2}
		want.Procs[7].Slots = append(want.Procs[7].Slots, has(at, 1))
		wantOpened(t, k, 7, 2, 1, want, len(k.Procs[7].Slots))
	}
}

func TestOpenedUntilThereAreMaxSlots(t *testing.T) {
	k := Boot()
	for fd := 1; fd < api.MaxSlots; fd++ {
		got, at, err := Opened(k, 0, 0, fd)
		wantSame(t, "the slot of what is opened", []any{at, err}, []any{fd, api.OK})
		k = got
	}
	refuseOpened(t, k, 0, 0, 1, api.ErrFull)
	k = with(k, func(own *api.Kernel) { own.Procs[0].Slots, _ = table.Close(own.Procs[0].Slots, 4) })
	want := sweep.Own(k)
	want.Opens[4], want.Procs[0].Slots[4] = api.Open{}, has(4, 1)
	wantOpened(t, k, 0, 0, 1, want, 4)
}

func TestOpenedOfWhatIsNone(t *testing.T) {
	k := exited(t, forked(t, withFile(t, Boot(), 0, "f", 3), 0, 0), 1)
	k = with(k, func(own *api.Kernel) { own.Procs[0].Slots[1], own.Procs[2].Slots[1] = api.Slot{}, api.Slot{} })
	for _, n := range append([]int{3, 4, 8}, farNumbers...) {
		refuseOpened(t, k, n, 0, 1, api.ErrNone)
	}
	for _, n := range append([]int{1, 4, 5, 40}, farNumbers...) {
		refuseOpened(t, k, 0, n, 1, api.ErrNone)
	}
	refuseOpened(t, k, 1, 0, 1, api.ErrNone)
	for _, rights := range noSets {
		refuseOpened(t, k, 0, 0, rights, api.ErrRange)
	}
}

// Example 10: a process forks: its child is number 1, its descriptor in slot 1.
func TestFork(t *testing.T) {
	k := api.Kernel{
		Objects: []api.Object{dir(), proc(1)},
		Opens:   opens(0, 1),
		Procs:   []api.Proc{live(has(0, 4095), ofChild(1)), live(has(0, 4095))},
	}
	wantFork(t, Boot(), 0, k, 1, 1)
	next := api.Kernel{
		Objects: []api.Object{dir(), proc(1), proc(2)},
		Opens:   opens(0, 1, 2),
		Procs:   []api.Proc{live(has(0, 4095), ofChild(1), ofChild(2)), live(has(0, 4095)), live(has(0, 4095), ofChild(1))},
	}
	wantFork(t, k, 0, next, 2, 2)
	next.Procs = []api.Proc{k.Procs[0], live(has(0, 4095), ofChild(2)), live(has(0, 4095))}
	wantFork(t, k, 1, next, 2, 1)
}

// The child has what the parent has: each capability, of the same open file,
// in the same slot, slots without one too, and not the descriptor of itself.
func TestTheChildHasWhatTheParentHas(t *testing.T) {
	k := withFile(t, withFile(t, forked(t, Boot(), 0), 1, "f", 3), 1, "g", 2049)
	for _, slots := range [][]api.Slot{
		{},
		{has(0, 4095)},
		{has(0, 0), has(2, 1)},
		{api.Slot{}, has(2, 3), api.Slot{}, has(3, 2049), has(2, 1)},
		{api.Slot{}, api.Slot{}, api.Slot{}, has(0, 5)},
		{has(3, 1), has(3, 1), has(3, 1), has(3, 1), has(3, 1), has(3, 1), has(3, 1), has(3, 1), has(3, 1)},
	} {
		k := withSlots(k, 1, slots...)
		got, child, fd, err := Fork(k, 1)
		wantSame(t, "the error of Fork", err, api.OK)
		wantSame(t, "the child", got.Procs[child], live(slots...))
		mine := slices.Clone(got.Procs[1].Slots)
		desc := mine[fd]
		mine, _ = table.Close(mine, fd)
		wantSame(t, "what the parent has beside the descriptor", mine, k.Procs[1].Slots)
		wantSame(t, "what the descriptor is of", got.Objects[got.Opens[desc.Cap.Open].Obj], proc(child))
		wantSame(t, "rights of the descriptor", desc.Cap.Rights, 1024+2048+128)
	}
}

func TestTheChildIsFencedAsTheParent(t *testing.T) {
	k := fenced(forked(t, Boot(), 0), 1)
	for p, want := range []bool{false, true} {
		got, child, _, _ := Fork(k, p)
		wantSame(t, fmt.Sprint("Fenced, of the child of process ", p), got.Procs[child].Fenced, want)
		wantSame(t, "Fenced, of the others", []bool{got.Procs[0].Fenced, got.Procs[1].Fenced}, []bool{false, true})
	}
}

func TestForkTakesTheFirstNumber(t *testing.T) {
	k := forked(t, Boot(), 0, 0, 0, 0)
	k = with(k, func(own *api.Kernel) {
		for _, p := range []int{1, 2, 3, 4} {
			own.Procs[p].Slots = nil
		}
	})
	for a := 1; a < 5; a++ {
		gone := exited(t, k, a)
		wantNumber(t, gone, 0, 5)
		for b := 1; b <= a; b++ {
			// Who holds no descriptor of them any more lets their numbers go.
			gone := with(k, func(own *api.Kernel) { own.Procs[0].Slots[a], own.Procs[0].Slots[b] = api.Slot{}, api.Slot{} })
			want := sweep.Own(gone)
			want.Procs = append(want.Procs, make([]api.Proc, max(0, b+1-len(want.Procs)))...)
			want.Objects = append(want.Objects, make([]api.Object, max(0, b+1-len(want.Objects)))...)
			want.Opens = append(want.Opens, make([]api.Open, max(0, b+1-len(want.Opens)))...)
			want.Objects[b], want.Opens[b] = proc(b), api.Open{Obj: b}
			want.Procs[b] = live(gone.Procs[0].Slots...)
			want.Procs[0].Slots = append(want.Procs[0].Slots, make([]api.Slot, max(0, b+1-len(want.Procs[0].Slots)))...)
			want.Procs[0].Slots[b] = ofChild(b)
			wantFork(t, gone, 0, want, b, b)
		}
	}
}

// A process that has exited keeps its number while somebody can ask what came
// of it, be it that the descriptor waits.
func TestForkLeavesOutNumbersThatAreKnown(t *testing.T) {
	k := forked(t, Boot(), 0, 0)
	k = withSlots(k, 2, ofChild(1))
	k = exited(t, k, 1)
	wantNumber(t, k, 0, 3)
	k = with(k, func(own *api.Kernel) { own.Procs[0].Slots[1] = api.Slot{} })
	wantNumber(t, k, 0, 3)
	objects, ends, _ := channel.Pair(k.Objects)
	objects, _ = channel.Send(objects, ends[0], api.Message{Has: true, Cap: k.Procs[2].Slots[0].Cap})
	k.Objects = objects
	k, fd, _ := Opened(k, 0, ends[1], api.Recv)
	k = withSlots(k, 2)
	wantNumber(t, k, 0, 3)
	wantSame(t, "process 1", k.Procs[1], api.Proc{Code: 101})
	k = with(k, func(own *api.Kernel) { own.Procs[0].Slots, _ = table.Close(own.Procs[0].Slots, fd) })
	wantNumber(t, k, 0, 1)
}

// Number 0 is a number as others are, once its process doesn't live: of what
// was there before nothing is left.
func TestForkTakesNumber0(t *testing.T) {
	k := fenced(forked(t, Boot(), 0, 0), 0)
	k = with(k, func(own *api.Kernel) {
		own.Procs[1].Slots = []api.Slot{has(0, 7), ofChild(2)}
		own.Procs[2].Slots = []api.Slot{ofChild(1)}
	})
	k = exited(t, k, 0)
	wantSame(t, "process 0", k.Procs[0], api.Proc{Fenced: true, Code: 100})
	want := api.Kernel{
		Objects: append(slices.Clone(k.Objects), proc(0)),
		Opens:   append(slices.Clone(k.Opens), api.Open{Obj: 3}),
		Procs:   []api.Proc{live(has(0, 7), ofChild(2)), live(has(0, 7), ofChild(2), ofChild(3)), k.Procs[2]},
	}
	wantFork(t, k, 1, want, 0, 2)
	wantNumber(t, forked(t, k, 1), 0, 3)
	wantNumber(t, exited(t, forked(t, k, 1), 0), 1, 3)
}

func TestForkUntilThereAreMaxProcs(t *testing.T) {
	k := Boot()
	for n := 1; n < api.MaxProcs; n++ {
		wantNumber(t, k, n-1, n)
		k = forked(t, k, n-1)
	}
	for p := range api.MaxProcs {
		refuseFork(t, k, p, api.ErrFull)
	}
	// Each number lives, or is known: there is none, though one doesn't live.
	k = exited(t, k, 7)
	refuseFork(t, k, 0, api.ErrFull)
	k = withSlots(k, 6, has(0, 4095))
	wantNumber(t, k, 0, 7)
}

// crowded has as many objects, each one in another one, from the root on.
func crowded(t *testing.T, n int) api.Kernel {
	t.Helper()
	k := Boot()
	for at := 1; at < n; at++ {
		l, obj, _ := store.Make(k.Objects, api.Object{Kind: api.ObjDir, Peer: -1, Proc: -1})
		l, err := store.Enter(l, (at-1)/api.MaxEntries, fmt.Sprint("n", obj), obj)
		if obj != at || err != api.OK {
			t.Fatalf("object %d is not made: %d", at, err)
		}
		k.Objects = l
	}
	wantSame(t, "what is crowded, swept,", sweep.Sweep(k), k)
	return k
}

func TestForkUntilThereAreMaxObjects(t *testing.T) {
	k := crowded(t, api.MaxObjects-1)
	want := sweep.Own(k)
	want.Objects, want.Opens = append(want.Objects, proc(1)), opens(0, 39)
	want.Procs = []api.Proc{live(has(0, 4095), ofChild(1)), live(has(0, 4095))}
	wantFork(t, k, 0, want, 1, 1)
	k = crowded(t, api.MaxObjects)
	refuseFork(t, k, 0, api.ErrFull)
	k = with(k, func(own *api.Kernel) { own.Objects, _, _ = store.Remove(own.Objects, 2, "n17") })
	want.Objects, want.Opens = slices.Clone(k.Objects), opens(0, 17)
	want.Objects[17] = proc(1)
	wantFork(t, k, 0, want, 1, 1)
}

func TestForkUntilThereAreMaxOpens(t *testing.T) {
	k := manyOpens(t, 7, api.MaxOpens-1)
	_, child, fd, err := Fork(k, 0)
	wantSame(t, "the child, and its descriptor,", []any{child, fd, err}, []any{7, 7, api.OK})
	k = manyOpens(t, 7, api.MaxOpens)
	for p := range 7 {
		refuseFork(t, k, p, api.ErrFull)
	}
	k = with(k, func(own *api.Kernel) { own.Procs[3].Slots, _ = table.Close(own.Procs[3].Slots, 4) })
	_, child, fd, err = Fork(k, 0)
	wantSame(t, "the child, and its descriptor,", []any{child, fd, err}, []any{7, 7, api.OK})
}

func TestForkUntilThereAreMaxSlots(t *testing.T) {
	k := Boot()
	for range api.MaxSlots - 2 {
		k, _, _ = Opened(k, 0, 0, 1)
	}
	wantNumber(t, k, 0, 1)
	k, _, _ = Opened(k, 0, 0, 1)
	refuseFork(t, k, 0, api.ErrFull)
	k = with(k, func(own *api.Kernel) { own.Procs[0].Slots, _ = table.Close(own.Procs[0].Slots, 6) })
	_, _, fd, err := Fork(k, 0)
	wantSame(t, "the descriptor's slot", []any{fd, err}, []any{6, api.OK})
}

func TestForkErrors(t *testing.T) {
	k := exited(t, forked(t, Boot(), 0, 0), 1)
	for _, p := range append([]int{1, 3, 4, 8}, farNumbers...) {
		refuseFork(t, k, p, api.ErrNone)
	}
	refuseFork(t, exited(t, Boot(), 0), 0, api.ErrNone)
	refuseFork(t, api.Kernel{}, 0, api.ErrNone)
	// Who doesn't live is told so ahead of it that there is no room.
	full := exited(t, forked(t, Boot(), 0, 0, 0, 0, 0, 0, 0), 3)
	refuseFork(t, full, 3, api.ErrNone)
	refuseFork(t, full, 8, api.ErrNone)
	refuseFork(t, full, 0, api.ErrFull)
}

func TestExit(t *testing.T) {
	k := fenced(withFile(t, forked(t, Boot(), 0, 1), 1, "f", 3), 1)
	for p := range 3 {
		for _, code := range []int{0, 1, 100, 254, 255} {
			want := sweep.Own(k)
			want.Procs[p] = api.Proc{Fenced: p == 1, Code: code}
			wantExit(t, k, p, code, want)
		}
	}
	want := booted()
	want.Procs[0] = api.Proc{Code: 5}
	wantExit(t, Boot(), 0, 5, want)
	want.Opens = nil
	wantSame(t, "what is left of it, swept,", exitSwept(t, Boot(), 0, 5), want)
}

func exitSwept(t *testing.T, k api.Kernel, p, code int) api.Kernel {
	t.Helper()
	k, err := Exit(k, p, code)
	wantSame(t, "the error of Exit", err, api.OK)
	return sweep.Sweep(k)
}

func TestExitErrorsInTheirOrder(t *testing.T) {
	k := exited(t, forked(t, Boot(), 0, 0), 1)
	codes := append([]int{256, 257, 0, 255}, farNumbers...)
	for _, code := range codes {
		for _, p := range append([]int{1, 3, 4, 8}, farNumbers...) {
			refuseExit(t, k, p, code, api.ErrNone)
		}
		refuseExit(t, api.Kernel{}, 0, code, api.ErrNone)
		if code < 0 || code > 255 {
			refuseExit(t, k, 0, code, api.ErrRange)
			refuseExit(t, k, 2, code, api.ErrRange)
		}
	}
}

// What a process had alone goes with it, and so do its children of which
// nobody else has a descriptor.
func TestExitedAndSwept(t *testing.T) {
	k := forked(t, Boot(), 0, 1, 2, 0)
	got := exited(t, k, 1)
	want := api.Kernel{
		Objects: []api.Object{dir(), proc(1), {}, {}, proc(4)},
		Opens:   opens(0, 1, -1, -1, 4),
		Procs:   []api.Proc{k.Procs[0], {Code: 101}, {}, {}, k.Procs[4]},
	}
	wantSame(t, "what is left", got, want)
	wantNumber(t, got, 0, 2)
	wantNumber(t, exited(t, k, 3), 0, 5)
}

// numbers are the same ones each time, so that a failure can be looked at again.
func numbers() func(below int) int {
	state := uint64(20261119)
	return func(below int) int {
		state = state*6364136223846793005 + 1442695040888963407
		return int((state >> 33) % uint64(below))
	}
}

// firstFree goes down from the end, by another way than the program's.
func firstFree(n int, taken map[int]int) int {
	at := -1
	for i := n - 1; i >= 0; i-- {
		if taken[i] == 0 {
			at = i
		}
	}
	return at
}

func takenProcs(k api.Kernel) map[int]int {
	taken := map[int]int{}
	for p, o := range k.Procs {
		if o.Live {
			taken[p]++
		}
	}
	for _, o := range k.Objects {
		if o.Kind == api.ObjProc {
			taken[o.Proc]++
		}
	}
	return taken
}

func takenOpens(k api.Kernel) map[int]int {
	taken := map[int]int{}
	for at, o := range k.Opens {
		if o.Obj > -1 {
			taken[at]++
		}
	}
	return taken
}

func takenObjects(k api.Kernel) map[int]int {
	taken := map[int]int{}
	for at, o := range k.Objects {
		taken[at] = o.Kind
	}
	return taken
}

func takenSlots(l []api.Slot) map[int]int {
	taken := map[int]int{}
	for _, at := range table.All(l) {
		taken[at]++
	}
	return taken
}

// put has a list of its own go on until at.
func put[T any](l []T, at int, x T) []T {
	l = slices.Clone(l)
	for len(l) <= at {
		var gap T
		l = append(l, gap)
	}
	l[at] = x
	return l
}

// openedBy is what Opened must answer; the slot is below 0 where it refuses.
func openedBy(k api.Kernel, p, obj, rights int) (api.Kernel, int) {
	open, fd := firstFree(60, takenOpens(k)), firstFree(10, takenSlots(k.Procs[p].Slots))
	if open < 0 || fd < 0 {
		return k, -1
	}
	k.Opens = put(k.Opens, open, api.Open{Obj: obj})
	own := k.Procs[p]
	own.Slots = put(own.Slots, fd, has(open, rights))
	k.Procs = put(k.Procs, p, own)
	return k, fd
}

// forkedBy is what Fork must answer, of a process that lives; the child is
// below 0 where it refuses.
func forkedBy(k api.Kernel, p int) (api.Kernel, int, int) {
	child, obj := firstFree(8, takenProcs(k)), firstFree(40, takenObjects(k))
	if child < 0 || obj < 0 {
		return k, -1, -1
	}
	got, fd := openedBy(k, p, obj, 3200)
	if fd < 0 {
		return k, -1, -1
	}
	got.Objects = put(got.Objects, obj, proc(child))
	own := k.Procs[p]
	own.Code = 0
	got.Procs = put(got.Procs, child, own)
	return got, child, fd
}

// step does something to the kernel, and holds it against what must come; it
// tells what it did.
func step(t *testing.T, k api.Kernel, next func(int) int) (api.Kernel, string) {
	t.Helper()
	p := next(len(k.Procs)+2) - 1
	switch kind := next(20); {
	case kind < 9:
		return stepFork(t, k, p)
	case kind < 11:
		return stepExit(t, k, p, next(400)-40)
	case !Live(k, p):
		return k, "nothing"
	case kind < 14:
		return stepOpened(t, k, p, next(len(k.Objects)), next(4096))
	case kind == 14:
		return fenced(k, p), "enter"
	case kind == 15:
		l, obj, err := store.Make(k.Objects, file("f"))
		if err != api.OK {
			return k, "nothing"
		}
		k.Objects = l
		return stepOpened(t, k, p, obj, 3)
	case kind == 16:
		return with(k, func(own *api.Kernel) {
			if l, err := table.Close(own.Procs[p].Slots, next(10)); err == api.OK {
				own.Procs[p].Slots = l
			}
		}), "close"
	}
	// A capability of another process's, as if it had been sent.
	from := next(len(k.Procs))
	if c, err := table.Get(k.Procs[from].Slots, next(10)); err == api.OK {
		if l, _, err := table.Put(k.Procs[p].Slots, c); err == api.OK {
			return withSlots(k, p, l...), "send"
		}
	}
	return k, "nothing"
}

func stepOpened(t *testing.T, k api.Kernel, p, obj, rights int) (api.Kernel, string) {
	t.Helper()
	if k.Objects[obj].Kind == 0 {
		return k, "nothing"
	}
	want, fd := openedBy(k, p, obj, rights)
	if fd < 0 {
		refuseOpened(t, k, p, obj, rights, api.ErrFull)
		return sweep.Sweep(k), "opened 15"
	}
	wantOpened(t, k, p, obj, rights, want, fd)
	wantSame(t, "what is opened, swept,", sweep.Sweep(want), want)
	return want, "opened 0"
}

func stepFork(t *testing.T, k api.Kernel, p int) (api.Kernel, string) {
	t.Helper()
	if p < 0 || p >= len(k.Procs) || !k.Procs[p].Live {
		refuseFork(t, k, p, api.ErrNone)
		return k, "fork 6"
	}
	want, child, fd := forkedBy(k, p)
	if child < 0 {
		refuseFork(t, k, p, api.ErrFull)
		return k, "fork 15"
	}
	wantFork(t, k, p, want, child, fd)
	wantSame(t, "what is forked, swept,", sweep.Sweep(want), want)
	return want, fmt.Sprint("fork of number 0: ", child == 0)
}

func stepExit(t *testing.T, k api.Kernel, p, code int) (api.Kernel, string) {
	t.Helper()
	switch {
	case p < 0 || p >= len(k.Procs) || !k.Procs[p].Live:
		refuseExit(t, k, p, code, api.ErrNone)
		return k, "exit 6"
	case code < 0 || code > 255:
		refuseExit(t, k, p, code, api.ErrRange)
		return k, "exit 3"
	}
	want := k
	want.Procs = put(k.Procs, p, api.Proc{Fenced: k.Procs[p].Fenced, Code: code})
	wantExit(t, k, p, code, want)
	return sweep.Sweep(want), "exit 0"
}

func TestAnything(t *testing.T) {
	next := numbers()
	counts := map[string]int{}
	for range 600 {
		k := Boot()
		for range 120 {
			var did string
			k, did = step(t, k, next)
			counts[did]++
			if t.Failed() {
				return
			}
		}
	}
	for _, did := range []string{"fork 6", "fork 15", "fork of number 0: false", "fork of number 0: true", "exit 0", "exit 3", "exit 6", "opened 0", "opened 15", "enter", "close", "send"} {
		if counts[did] < 30 {
			t.Errorf("%s came %d times: these tell little", did, counts[did])
		}
	}
}

// some has a list of every sort, spare room to be laid behind each of them,
// an open file and a number that have gone, and processes inside and outside.
func some(t *testing.T) api.Kernel {
	t.Helper()
	k := withFile(t, forked(t, Boot(), 0, 0, 0), 0, "hello", 3)
	k.Objects, _ = store.Enter(k.Objects, 0, "f", 4)
	k.Objects, _, _ = channel.Pair(k.Objects)
	k.Objects, _ = channel.Send(k.Objects, 5, api.Message{Data: []byte("m"), Has: true, Cap: api.Cap{Open: 4, Rights: 3}})
	k, _, _ = Opened(k, 0, 6, api.Every)
	k = exited(t, fenced(k, 1), 3)
	return with(k, func(own *api.Kernel) { own.Procs[0].Slots[2] = api.Slot{} })
}

func behind[T any](l []T, more ...T) []T {
	return append(slices.Clone(l), more...)[:len(l)]
}

// roomy lays something behind each list, so that it shows if a call looks at
// it, or writes there.
func roomy(k api.Kernel) api.Kernel {
	k.Objects = behind(k.Objects, dir(), proc(2), proc(4))
	for at := range k.Objects {
		o := &k.Objects[at]
		o.Data = behind(o.Data, 'B', 'B')
		o.Entries = behind(o.Entries, api.Entry{Name: "behind", Obj: 1}, api.Entry{Name: "behinds", Obj: 2})
		o.Queue = behind(o.Queue, api.Message{}, api.Message{Has: true})
		for i := range o.Queue {
			o.Queue[i].Data = behind(o.Queue[i].Data, 'B', 'B')
		}
	}
	k.Opens = behind(k.Opens, api.Open{Obj: 1}, api.Open{Obj: 2})
	k.Procs = behind(k.Procs, live(has(1, 1)), live(has(2, 2)))
	for p := range k.Procs {
		k.Procs[p].Slots = behind(k.Procs[p].Slots, has(1, 1), has(2, 2))
	}
	return k
}

// pieces are all lists of a kernel, with their spare room: what tells each
// one, without the lists that are in it, and what spoils it.
func pieces(k api.Kernel) (tells []func() string, spoils []func()) {
	for _, o := range k.Objects[:cap(k.Objects)] {
		add(&tells, &spoils, o.Data, '!')
		add(&tells, &spoils, o.Entries, api.Entry{Name: "!"})
		for _, m := range o.Queue[:cap(o.Queue)] {
			add(&tells, &spoils, m.Data, '!')
		}
		add(&tells, &spoils, o.Queue, api.Message{Cap: api.Cap{Open: -9}})
	}
	for _, p := range k.Procs[:cap(k.Procs)] {
		add(&tells, &spoils, p.Slots, has(-9, -9))
	}
	add(&tells, &spoils, k.Objects, api.Object{Kind: -9})
	add(&tells, &spoils, k.Opens, api.Open{Obj: -9, At: -9})
	add(&tells, &spoils, k.Procs, api.Proc{Code: -9})
	return tells, spoils
}

func add[T any](tells *[]func() string, spoils *[]func(), l []T, bad T) {
	l = l[:cap(l)]
	*tells = append(*tells, func() string {
		var out []string
		for _, x := range l {
			out = append(out, told(shallow(x)))
		}
		return strings.Join(out, " ")
	})
	*spoils = append(*spoils, func() {
		for at := range l {
			l[at] = bad
		}
	})
}

func shallow(x any) any {
	switch o := x.(type) {
	case api.Object:
		o.Data, o.Entries, o.Queue = nil, nil, nil
		return o
	case api.Message:
		o.Data = nil
		return o
	case api.Proc:
		o.Slots = nil
		return o
	}
	return x
}

func tellAll(tells []func() string) string {
	var out []string
	for _, tell := range tells {
		out = append(out, tell())
	}
	return strings.Join(out, "\n")
}

func whole(k api.Kernel) string {
	tells, _ := pieces(k)
	return tellAll(tells)
}

func spoil(k api.Kernel) {
	_, spoils := pieces(k)
	for _, bad := range spoils {
		bad()
	}
}

// kernels are one where the next number, object, open file and slot is one
// that has gone, and one where each of them is behind the others.
func kernels(t *testing.T) []api.Kernel {
	t.Helper()
	return []api.Kernel{some(t), forked(t, some(t), 0, 0)}
}

// calls answers what each call makes of the same kernel.
func calls(k api.Kernel) []api.Kernel {
	first, _, _ := Opened(k, 0, 4, 3)
	other, _, _ := Opened(k, 1, 0, 3)
	child, _, _, _ := Fork(k, 0)
	another, _, _, _ := Fork(k, 1)
	gone, _ := Exit(k, 1, 9)
	return []api.Kernel{first, other, child, another, gone}
}

func TestHandedInIsOnlyRead(t *testing.T) {
	for _, k := range kernels(t) {
		room := roomy(k)
		before := whole(room)
		want := calls(k)
		for at, got := range calls(room) {
			wantSame(t, fmt.Sprint("with spare room behind, call ", at), got, want[at])
		}
		for p := len(room.Procs); p < cap(room.Procs); p++ {
			wantSame(t, "Live behind the last one", Live(room, p), false)
			refuseFork(t, room, p, api.ErrNone)
			refuseExit(t, room, p, 0, api.ErrNone)
			refuseOpened(t, room, p, 0, 1, api.ErrNone)
		}
		refuseOpened(t, room, 0, len(room.Objects), 1, api.ErrNone)
		if whole(room) != before {
			t.Error("what was handed in is another one")
		}
	}
}

func TestNothingIsKept(t *testing.T) {
	for _, k := range kernels(t) {
		room := roomy(k)
		got := calls(room)
		spoil(room)
		for at, want := range calls(k) {
			wantSame(t, fmt.Sprint("once what was handed in is changed, call ", at), got[at], want)
		}
	}
}

func TestAnswersAreNew(t *testing.T) {
	for _, k := range kernels(t) {
		room := roomy(k)
		before := whole(room)
		for _, got := range calls(room) {
			spoil(got)
		}
		if whole(room) != before {
			t.Error("answers share memory with what was handed in")
		}
	}
}

// Each list of an answer is one by itself: the child's slots are not the
// parent's.
func TestAnswersShareNothing(t *testing.T) {
	for _, k := range kernels(t) {
		for at, answer := range calls(k) {
			_, spoils := pieces(answer)
			for i := range spoils {
				tells, spoils := pieces(calls(k)[at])
				tells = slices.Delete(tells, i, i+1)
				before := tellAll(tells)
				spoils[i]()
				if tellAll(tells) != before {
					t.Errorf("list %d of answer %d shares memory with another one there", i, at)
				}
			}
		}
	}
}

// odd are kernels that no call makes.
func odd() []api.Kernel {
	numbers := append([]int{0, 1, 7, 8}, farNumbers...)
	kernels := []api.Kernel{
		{},
		{Procs: []api.Proc{live()}},
		{Objects: []api.Object{{}}, Procs: []api.Proc{live(), {}, live()}},
		{Objects: make([]api.Object, 90), Opens: make([]api.Open, 90), Procs: make([]api.Proc, 90)},
	}
	for _, n := range numbers {
		kernels = append(kernels, api.Kernel{
			Objects: []api.Object{{Kind: n}, {Kind: api.ObjProc, Proc: n}, {Kind: api.ObjProc, Proc: 1}, {Kind: api.ObjEnd, Peer: n, Queue: []api.Message{{Has: true, Cap: api.Cap{Open: n, Rights: n}}}}},
			Opens:   []api.Open{{Obj: n, At: n}, {Obj: -1, At: n}},
			Procs:   []api.Proc{live(has(n, n)), {Code: n}, live(api.Slot{}, has(n, n))},
		})
	}
	return kernels
}

func TestNoCallPanics(t *testing.T) {
	numbers := append([]int{0, 1, 2, 3, 7, 8, 89, 90}, farNumbers...)
	for _, k := range odd() {
		for _, p := range numbers {
			Live(k, p)
			Fork(k, p)
			for _, n := range numbers {
				Exit(k, p, n)
				Opened(k, p, n, 3)
				Opened(k, p, 0, n)
			}
		}
	}
}

// A number that only an object knows is left out, though there is no process.
func TestForkOfWhatNoCallMakes(t *testing.T) {
	k := api.Kernel{Objects: []api.Object{dir(), proc(2), proc(1), proc(40), proc(-1)}, Procs: []api.Proc{live()}}
	want := api.Kernel{
		Objects: append(slices.Clone(k.Objects), proc(3)),
		Opens:   opens(5),
		Procs:   []api.Proc{live(ofChild(0)), {}, {}, live()},
	}
	wantFork(t, k, 0, want, 3, 0)
}
