package kern

import (
	"fmt"
	"math"
	"reflect"
	"slices"
	"strings"
	"testing"

	"ringfence/api"
	"ringfence/gate"
	"ringfence/procs"
	"ringfence/sweep"
)

var farNumbers = []int{math.MinInt, math.MinInt + 1, -1 << 32, -2, -1, 1 << 16, 1 << 32, math.MaxInt - 1, math.MaxInt}

// told tells lists without entries alike, be they nil or empty.
func told(x any) string { return fmt.Sprintf("%+v", x) }

func same(a, b any) bool { return reflect.DeepEqual(a, b) || told(a) == told(b) }

func wantSame(t *testing.T, what string, got, want any) {
	t.Helper()
	if !same(got, want) {
		t.Errorf("%s is %+v, not %+v", what, got, want)
	}
}

func has(open, rights int) api.Slot {
	return api.Slot{Has: true, Cap: api.Cap{Open: open, Rights: rights}}
}

func live(slots ...api.Slot) api.Proc { return api.Proc{Live: true, Slots: slots} }

func dir(links, up int, entries ...api.Entry) api.Object {
	return api.Object{Kind: 2, Entries: entries, Peer: -1, Proc: -1, Links: links, Up: up}
}

func fileOf(links int, s string) api.Object {
	return api.Object{Kind: 1, Data: []byte(s), Peer: -1, Proc: -1, Links: links}
}

func linkTo(target string) api.Object {
	return api.Object{Kind: 3, Target: target, Peer: -1, Proc: -1, Links: 1}
}

func endOf(peer int, queue ...api.Message) api.Object {
	return api.Object{Kind: 4, Peer: peer, Proc: -1, Queue: queue}
}

func procOf(p int) api.Object { return api.Object{Kind: 5, Peer: -1, Proc: p} }

// on is a call of which nothing but the FD matters.
func on(kind, fd int) api.Call { return api.Call{Kind: kind, FD: fd} }

func withN(kind, fd, n int) api.Call { return api.Call{Kind: kind, FD: fd, N: n} }

func withPath(kind, fd int, s string) api.Call { return api.Call{Kind: kind, FD: fd, Path: s} }

func limited(fd, rights int) api.Call {
	return api.Call{Kind: api.CallLimit, FD: fd, Rights: rights}
}

func opening(s string, flags, rights int) api.Call {
	return api.Call{Kind: api.CallOpen, Path: s, Flags: flags, Rights: rights}
}

func openingAt(fd int, s string, flags, rights int) api.Call {
	return api.Call{Kind: api.CallOpenAt, FD: fd, Path: s, Flags: flags, Rights: rights}
}

func writing(fd int, s string) api.Call {
	return api.Call{Kind: api.CallWrite, FD: fd, Data: []byte(s)}
}

func linking(fd int, s, target string) api.Call {
	return api.Call{Kind: api.CallLink, FD: fd, Path: s, Data: []byte(target)}
}

func sending(fd, fd2 int, s string) api.Call {
	return api.Call{Kind: api.CallSend, FD: fd, FD2: fd2, Data: []byte(s)}
}

func by(p int, c api.Call) api.Call {
	c.Proc = p
	return c
}

// run is a kernel on its way from call to call.
type run struct {
	t    *testing.T
	prog []api.Instr
	k    api.Kernel
}

func boot(t *testing.T) *run { return &run{t: t, k: procs.Boot()} }

func (r *run) do(c api.Call, want api.Answer) {
	r.t.Helper()
	k, a := Do(r.prog, r.k, c)
	what := fmt.Sprintf("Do(%+v, %+v, %+v)", r.prog, r.k, c)
	wantSame(r.t, what, a, want)
	if want.Err != api.OK {
		wantSame(r.t, "the kernel behind "+what, k, r.k)
	}
	wantSame(r.t, "swept, the kernel behind "+what, sweep.Sweep(k), k)
	r.k = k
}

// ok has calls done of which nothing but noughts come.
func (r *run) ok(cs ...api.Call) {
	r.t.Helper()
	for _, c := range cs {
		r.do(c, api.Answer{})
	}
}

// gives has a call done of which two numbers come.
func (r *run) gives(c api.Call, n, m int) {
	r.t.Helper()
	r.do(c, api.Answer{N: n, M: m})
}

// says has a call done of which a number and bytes come.
func (r *run) says(c api.Call, n int, s string) {
	r.t.Helper()
	r.do(c, api.Answer{N: n, Data: []byte(s)})
}

// refuses sees to it that what is refused changes nothing.
func (r *run) refuses(c api.Call, err api.Errno) {
	r.t.Helper()
	r.do(c, api.Answer{Err: err})
}

func (r *run) objects(want ...api.Object) {
	r.t.Helper()
	wantSame(r.t, "the list of objects", r.k.Objects, want)
}

func (r *run) opens(want ...api.Open) {
	r.t.Helper()
	wantSame(r.t, "the list of open files", r.k.Opens, want)
}

func (r *run) procs(want ...api.Proc) {
	r.t.Helper()
	wantSame(r.t, "the list of processes", r.k.Procs, want)
}

// dups has process p fill its slots until n of them have a capability.
func (r *run) dups(p, fd, n int) {
	r.t.Helper()
	for at := len(r.k.Procs[p].Slots); at < n; at++ {
		r.gives(by(p, on(api.CallDup, fd)), at, 0)
	}
}

func TestRecord(t *testing.T) {
	wantSame(t, "a record", Record(api.Call{Kind: 3, FD: -1, FD2: 1 << 31, N: 1<<31 + 5, Flags: -2, Rights: 7, Path: "x"}), [6]int{3, 1<<31 - 1, 0, 5, 1<<31 - 2, 7})
	wantSame(t, "a record", Record(api.Call{Kind: 1, FD: 2, FD2: 3, N: 4, Flags: 5, Rights: 6}), [6]int{1, 2, 3, 4, 5, 6})
	wantSame(t, "what Proc, Path and Data make of a record", Record(api.Call{Proc: 9, Path: "x", Data: []byte("y")}), [6]int{})
	for at, c := range [6]func(int) api.Call{
		func(n int) api.Call { return api.Call{Kind: n} },
		func(n int) api.Call { return api.Call{FD: n} },
		func(n int) api.Call { return api.Call{FD2: n} },
		func(n int) api.Call { return api.Call{N: n} },
		func(n int) api.Call { return api.Call{Flags: n} },
		func(n int) api.Call { return api.Call{Rights: n} },
	} {
		for _, n := range append([]int{0, 1, 22, 1<<31 - 1, 1 << 31, 1<<31 + 1, -1<<31 - 1, -1 << 31}, farNumbers...) {
			var want [6]int
			want[at] = int(uint64(n) << 33 >> 33)
			wantSame(t, fmt.Sprintf("Record(%+v)", c(n)), Record(c(n)), want)
		}
	}
}

// someCalls are refused, done, and hang on policies.
func someCalls() []api.Call {
	return []api.Call{
		opening("/f", 1, 4095), writing(1, "hello"), on(api.CallFork, 0), on(api.CallEnter, 0),
		on(api.CallMode, 0), withN(api.CallMode, 0, 4), opening("/f", 0, 1), by(1, opening("/f", 0, 1)),
		by(1, withN(api.CallRead, 1, 9)), withN(api.CallSeek, 1, 1), withN(api.CallRead, 1, 2),
		by(7, on(api.CallMode, 0)), on(23, 0), by(1, withN(api.CallExit, 0, 9)), on(api.CallWait, 2),
	}
}

func somePolicies() []api.Policy {
	return []api.Policy{
		{Call: api.CallMode, Masks: []api.Mask{{Word: 3, Bits: 4}}},
		{Call: api.CallRead}, {Call: api.CallOpen}, {Call: api.CallWait},
	}
}

func TestPlay(t *testing.T) {
	k, answers, err := Play(somePolicies(), someCalls())
	want := []api.Answer{
		{N: 1}, {N: 5}, {N: 1, M: 2}, {}, {N: 1}, {Err: api.ErrGate}, {Err: api.ErrGate}, {N: 2},
		{}, {Err: api.ErrGate}, {}, {Err: api.ErrNone}, {Err: api.ErrKind}, {}, {N: 9},
	}
	wantSame(t, "what Play answers", []any{answers, err}, []any{want, api.OK})
	wantSame(t, "the kernel that Play answers", k, api.Kernel{
		Objects: []api.Object{dir(1, 0, api.Entry{Name: "f", Obj: 1}), fileOf(1, "hello"), procOf(1)},
		Opens:   []api.Open{{Obj: 0}, {Obj: 1, At: 5}, {Obj: 2}},
		Procs:   []api.Proc{{Live: true, Fenced: true, Slots: []api.Slot{has(0, 4095), has(1, 4095), has(2, 3200)}}, {Code: 9}},
	})
}

// Play is Do, from Boot on, with the program that Compile makes.
func TestPlayIsDo(t *testing.T) {
	next := numbers(3)
	for range 60 {
		l, k := anyPolicies(next), procs.Boot()
		prog, _ := gate.Compile(l)
		var cs []api.Call
		var answers []api.Answer
		for range next(api.MaxCalls + 1) {
			c := anyCall(next, k)
			after, a := Do(prog, k, c)
			k, cs, answers = after, append(cs, c), append(answers, a)
		}
		got, gotAnswers, err := Play(l, cs)
		wantSame(t, fmt.Sprintf("Play(%+v, %+v)", l, cs), []any{got, gotAnswers, err}, []any{k, answers, api.OK})
	}
}

func TestPlayOfNothing(t *testing.T) {
	for _, cs := range [][]api.Call{nil, {}} {
		for _, l := range [][]api.Policy{nil, {}, somePolicies()} {
			k, answers, err := Play(l, cs)
			wantSame(t, "what Play makes of no calls", []any{k, answers, err}, []any{procs.Boot(), []api.Answer{}, api.OK})
		}
	}
}

func refusePlay(t *testing.T, l []api.Policy, cs []api.Call, want api.Errno) {
	t.Helper()
	k, answers, err := Play(l, cs)
	wantSame(t, fmt.Sprintf("Play(%+v, %+v)", l, cs), []any{k, answers, err}, []any{api.Kernel{}, []api.Answer{}, want})
}

func TestPlayErrors(t *testing.T) {
	most := make([]api.Call, api.MaxCalls)
	for at := range most {
		most[at] = on(api.CallMode, 0)
	}
	_, answers, err := Play(nil, most)
	wantSame(t, "what Play answers to MaxCalls", []any{answers, err}, []any{make([]api.Answer, 80), api.OK})
	mask := api.Mask{Word: 1, Bits: 1}
	for _, wrong := range []struct {
		l   []api.Policy
		err api.Errno
	}{
		{make([]api.Policy, api.MaxPolicies+1), api.ErrMany},
		{[]api.Policy{{Call: -1}}, api.ErrRange},
		{[]api.Policy{{Call: 1}, {Call: 2}, {Call: 1}}, api.ErrName},
		{[]api.Policy{{Call: 1, Masks: []api.Mask{mask, mask, mask, mask}}}, api.ErrMany},
		{[]api.Policy{{Call: 1, Masks: []api.Mask{{Word: 0, Bits: 1}}}}, api.ErrRange},
	} {
		refusePlay(t, wrong.l, nil, wrong.err)
		refusePlay(t, wrong.l, most, wrong.err)
		refusePlay(t, wrong.l, append(most, most[0]), wrong.err)
	}
	refusePlay(t, somePolicies(), append(most, most[0]), api.ErrMany)
	refusePlay(t, nil, make([]api.Call, 500), api.ErrMany)
}

func program(t *testing.T, l ...api.Policy) []api.Instr {
	t.Helper()
	prog, fault := gate.Compile(l)
	wantSame(t, "the fault of policies", fault, api.Fault{})
	return prog
}

func everything() []api.Instr { return []api.Instr{{Op: api.OpBack, K: api.Allow}} }

func TestWhoDoesNotLiveIsToldSoFirst(t *testing.T) {
	r := boot(t)
	r.gives(on(api.CallFork, 0), 1, 1)
	r.gives(on(api.CallFork, 0), 2, 2)
	r.ok(by(1, on(api.CallExit, 0)))
	for _, p := range append([]int{1, 3, 7, 8}, farNumbers...) {
		for _, kind := range append([]int{0, 1, 2, 7, 22, 23}, farNumbers...) {
			r.refuses(by(p, on(kind, 0)), api.ErrNone)
		}
	}
	r.ok(on(api.CallExit, 0))
	r.refuses(on(api.CallMode, 0), api.ErrNone)
	k, a := Do(nil, api.Kernel{}, on(api.CallMode, 0))
	wantSame(t, "Do in a kernel of nothing", []any{k, a}, []any{api.Kernel{}, api.Answer{Err: api.ErrNone}})
}

// There are 22 kinds, inside the fence as outside.
func TestThereIsNoSuchCall(t *testing.T) {
	r := boot(t)
	r.prog = everything()
	for range 2 {
		for _, kind := range append([]int{0, 23, 24, 1 << 31, 1<<31 + 22}, farNumbers...) {
			r.refuses(on(kind, 0), api.ErrKind)
		}
		for kind := 1; kind <= 22; kind++ {
			if _, a := Do(r.prog, r.k, on(kind, 0)); a.Err == api.ErrKind {
				t.Errorf("there is no call of kind %d", kind)
			}
		}
		r.ok(on(api.CallEnter, 0))
	}
	r.prog = nil
	r.refuses(on(0, 0), api.ErrKind)
	r.refuses(on(23, 0), api.ErrKind)
}

func TestOutsideTheFenceNoProgramIsAsked(t *testing.T) {
	for _, prog := range [][]api.Instr{nil, {}, {{Op: 9}}, {{Op: api.OpBack, K: api.Deny}}, program(t)} {
		r := boot(t)
		r.prog = prog
		r.gives(opening("/f", 1, 3), 1, 0)
		r.gives(on(api.CallMode, 0), 0, 0)
		r.ok(on(api.CallEnter, 0))
		for kind := 1; kind <= 22; kind++ {
			r.refuses(on(kind, 0), api.ErrGate)
		}
	}
}

// Example 11: inside the fence nothing is opened from the root, whatever the
// program says.
func TestInsideTheFenceTheProgramIsAsked(t *testing.T) {
	var all []api.Policy
	for kind := 1; kind <= 22; kind++ {
		all = append(all, api.Policy{Call: kind})
	}
	r := boot(t)
	r.gives(on(api.CallFork, 0), 1, 1)
	r.ok(on(api.CallEnter, 0))
	for kind := 1; kind <= 22; kind++ {
		alone := program(t, api.Policy{Call: kind})
		without := program(t, slices.Delete(slices.Clone(all), kind-1, kind)...)
		for other := 1; other <= 22; other++ {
			_, a := Do(alone, r.k, on(other, 0))
			wantSame(t, fmt.Sprintf("whether call %d is at the gate, where %d may be called", other, kind), a.Err == api.ErrGate, other != kind || kind == api.CallOpen)
			_, a = Do(without, r.k, on(other, 0))
			wantSame(t, fmt.Sprintf("whether call %d is at the gate, where %d may not be called", other, kind), a.Err == api.ErrGate, other == kind || other == api.CallOpen)
			_, a = Do(alone, r.k, by(1, on(other, 0)))
			wantSame(t, fmt.Sprintf("whether call %d of who is outside is at the gate", other), a.Err == api.ErrGate, false)
		}
	}
	r.prog = everything()
	r.refuses(opening("/", 0, 1), api.ErrGate)
	r.refuses(opening("/", -1, -1), api.ErrGate)
	r.gives(openingAt(0, ".", 0, 1), 2, 0)
	r.gives(by(1, opening("/", 0, 1)), 1, 0)
}

// The gate is told ahead of everything that is wrong with the call itself.
func TestTheGateComesFirst(t *testing.T) {
	r := boot(t)
	r.ok(on(api.CallEnter, 0))
	for _, c := range []api.Call{
		openingAt(9, "", 9, -1), withN(api.CallRead, 9, -1), withN(api.CallSeek, 0, -1), on(api.CallClose, -1),
		limited(0, -1), linking(0, "", "BAD"), sending(0, 9, ""), withN(api.CallExit, 0, 256), on(api.CallKill, 0),
	} {
		r.prog = nil
		r.refuses(c, api.ErrGate)
		r.prog = everything()
		if _, a := Do(r.prog, r.k, c); a.Err == api.OK || a.Err == api.ErrGate {
			t.Errorf("%+v answers %d, with everything allowed", c, a.Err)
		}
	}
}

// Each word of the record is what the program is given of the call.
func TestTheProgramIsGivenTheRecord(t *testing.T) {
	fields := [6]func(int) api.Call{
		1: func(n int) api.Call { return api.Call{Kind: api.CallMode, FD: n} },
		2: func(n int) api.Call { return api.Call{Kind: api.CallMode, FD2: n} },
		3: func(n int) api.Call { return api.Call{Kind: api.CallMode, N: n} },
		4: func(n int) api.Call { return api.Call{Kind: api.CallMode, Flags: n} },
		5: func(n int) api.Call { return api.Call{Kind: api.CallMode, Rights: n} },
	}
	r := boot(t)
	r.ok(on(api.CallEnter, 0))
	for word := 1; word < 6; word++ {
		for _, bits := range []int{1, 4, 5, 1 << 30, 1<<31 - 1} {
			r.prog = program(t, api.Policy{Call: api.CallMode, Masks: []api.Mask{{Word: word, Bits: bits}}})
			for other := 1; other < 6; other++ {
				for _, n := range []int{0, 1, 2, 4, 1 << 30, 1 << 31, 1 << 40, -1} {
					want := api.Answer{N: 1}
					if other == word && n&bits != 0 {
						want = api.Answer{Err: api.ErrGate}
					}
					r.do(fields[other](n), want)
				}
			}
		}
	}
}

func TestOpen(t *testing.T) {
	r := boot(t)
	r.refuses(opening("/f", 0, 1), api.ErrNone)
	r.refuses(opening("/f", 2, 1), api.ErrNone)
	r.gives(opening("/f", 1, 5), 1, 0)
	r.objects(dir(1, 0, api.Entry{Name: "f", Obj: 1}), fileOf(1, ""))
	r.opens(api.Open{Obj: 0}, api.Open{Obj: 1})
	r.procs(live(has(0, 4095), has(1, 5)))
	// From the root on, with `/` or without; links are followed, and lead where they will.
	r.ok(withPath(api.CallMake, 0, "d"), linking(0, "d/l", "/f"), linking(0, "d/new", "../d/g"))
	r.gives(opening("f", 0, 0), 2, 0)
	r.gives(opening("d/l", 0, 4095), 3, 0)
	r.gives(opening("/d/../../f", 0, 2), 4, 0)
	r.gives(opening("/", 0, 64), 5, 0)
	r.gives(opening("d/.", 1, 2048), 6, 0)
	r.gives(opening("/d/new", 1, 1), 7, 0)
	r.opens(api.Open{Obj: 0}, api.Open{Obj: 1}, api.Open{Obj: 1}, api.Open{Obj: 1}, api.Open{Obj: 1}, api.Open{Obj: 0}, api.Open{Obj: 2}, api.Open{Obj: 5})
	r.procs(live(has(0, 4095), has(1, 5), has(2, 0), has(3, 4095), has(4, 2), has(5, 64), has(6, 2048), has(7, 1)))
	r.says(on(api.CallList, 0), 2, "d\nf")
	r.objects(dir(1, 0, api.Entry{Name: "d", Obj: 2}, api.Entry{Name: "f", Obj: 1}), fileOf(1, ""),
		dir(1, 0, api.Entry{Name: "g", Obj: 5}, api.Entry{Name: "l", Obj: 3}, api.Entry{Name: "new", Obj: 4}), linkTo("/f"), linkTo("../d/g"), fileOf(1, ""))
}

func TestOpenNeedsNoSlot(t *testing.T) {
	r := boot(t)
	r.ok(on(api.CallClose, 0))
	c := opening("/f", 1, 3)
	c.FD, c.FD2 = 9, 9
	r.gives(c, 0, 0)
	r.procs(live(has(0, 3)))
}

func TestOpenTruncates(t *testing.T) {
	r := boot(t)
	r.gives(opening("/f", 1, 7), 1, 0)
	r.gives(writing(1, "hello"), 5, 0)
	r.gives(opening("/f", 1, 7), 2, 0)
	r.says(withN(api.CallRead, 2, 9), 5, "hello")
	r.refuses(opening("/", 2, 1), api.ErrFile)
	r.refuses(opening("/", 3, 1), api.ErrFile)
	r.gives(opening("/f", 2, 1), 3, 0)
	r.objects(dir(1, 0, api.Entry{Name: "f", Obj: 1}), fileOf(1, ""))
	// Who has it open stays where it is.
	r.opens(api.Open{Obj: 0}, api.Open{Obj: 1, At: 5}, api.Open{Obj: 1, At: 5}, api.Open{Obj: 1})
	r.gives(writing(1, "z"), 1, 0)
	r.says(withN(api.CallRead, 3, 9), 6, "\x00\x00\x00\x00\x00z")
	r.gives(opening("/f", 3, 0), 4, 0)
	r.says(withN(api.CallRead, 3, 9), 0, "")
	r.gives(opening("/g", 3, 0), 5, 0)
	r.gives(on(api.CallDup, 0), 6, 0)
	r.says(on(api.CallList, 0), 2, "f\ng")
}

func TestOpenErrorsInTheirOrder(t *testing.T) {
	r := boot(t)
	r.ok(withPath(api.CallMake, 0, "d"), linking(0, "r", "r"))
	r.gives(opening("d/f", 1, 4095), 1, 0)
	r.ok(limited(1, 1))
	for _, set := range append([]int{4096}, farNumbers...) {
		r.refuses(opening("", 0, set), api.ErrRange)
		r.refuses(openingAt(9, "", 0, set), api.ErrRange)
	}
	for _, flags := range append([]int{4, 5, 7}, farNumbers...) {
		r.refuses(opening("", flags, 1), api.ErrRange)
		r.refuses(openingAt(9, "", flags, 1), api.ErrRange)
	}
	for _, fd := range append([]int{2, 9, 10}, farNumbers...) {
		r.refuses(openingAt(fd, "", 0, 1), api.ErrNone)
	}
	r.refuses(openingAt(1, "", 0, 0), api.ErrRight)
	for _, wrong := range []struct {
		s   string
		err api.Errno
	}{
		{"", api.ErrForm}, {strings.Repeat("d/", 31), api.ErrMuch}, {"D", api.ErrName}, {"d/f/x", api.ErrDir},
		{"d/f/..", api.ErrDir}, {"x/y", api.ErrNone}, {"r", api.ErrLoop}, {"d/../r", api.ErrLoop},
	} {
		for flags := range 4 {
			r.refuses(opening(wrong.s, flags, 1), wrong.err)
			r.refuses(openingAt(0, wrong.s, flags, 1), wrong.err)
		}
	}
	r.refuses(openingAt(0, "/d/f", 0, 1), api.ErrOut)
	r.refuses(openingAt(0, "..", 0, 1), api.ErrOut)
	r.refuses(openingAt(0, "d/../../d", 0, 1), api.ErrOut)
	r.refuses(openingAt(0, "x", 2, 1), api.ErrNone)
	r.refuses(openingAt(0, ".", 3, 1), api.ErrFile)
}

// Example 6: nothing leads out of the directory beneath which it is opened.
func TestOpenAtIsBeneath(t *testing.T) {
	r := boot(t)
	r.ok(withPath(api.CallMake, 0, "a"), withPath(api.CallMake, 0, "a/b"), linking(0, "a/x", "../f"), linking(0, "a/y", "/f"), linking(0, "a/in", "b/../b/f"))
	r.gives(opening("/f", 1, 1), 1, 0)
	r.gives(opening("/a", 0, 4095), 2, 0)
	for _, s := range []string{"x", "y", "../f", "b/../../f", "..", "/a/b"} {
		for _, flags := range []int{0, 1} {
			r.refuses(openingAt(2, s, flags, 1), api.ErrOut)
		}
	}
	r.gives(openingAt(2, "in", 1, 2), 3, 0)
	r.gives(openingAt(2, "b/../b/f", 0, 1), 4, 0)
	r.gives(openingAt(2, ".", 0, 128), 5, 0)
	r.gives(openingAt(0, "a/in", 0, 1), 6, 0)
	r.gives(openingAt(0, "a/x", 0, 1), 7, 0)
	r.procs(live(has(0, 4095), has(1, 1), has(2, 4095), has(3, 2), has(4, 1), has(5, 128), has(6, 1), has(7, 1)))
	r.gives(on(api.CallStat, 5), 2, 4)
	r.refuses(openingAt(0, "a/y", 0, 1), api.ErrOut)
	r.gives(opening("a/y", 0, 1), 8, 0)
	r.opens(api.Open{Obj: 0}, api.Open{Obj: 6}, api.Open{Obj: 1}, api.Open{Obj: 7}, api.Open{Obj: 7}, api.Open{Obj: 1}, api.Open{Obj: 7}, api.Open{Obj: 6}, api.Open{Obj: 6})
}

// What is opened beneath a directory has no right that the directory's
// capability has not, and each flag asks for a right of its own.
func TestOpenAtNeedsRights(t *testing.T) {
	r := boot(t)
	r.gives(opening("/f", 1, 1), 1, 0)
	for _, had := range []int{0, 8, 9, 8 | 16, 8 | 2, 8 | 16 | 2, 4095 - 8, 4095 - 16, 4095 - 2, 4095} {
		for flags := range 4 {
			for _, set := range []int{0, 1, 2, 3, 8, 2048, 4095} {
				s := boot(t)
				s.k = r.k
				s.ok(limited(0, had))
				c := openingAt(0, "f", flags, set)
				if need := set | 8 | flags%2*16 | flags/2*2; had&need == need {
					s.gives(c, 2, 0)
					s.procs(live(has(0, had), has(1, 1), has(2, set)))
				} else {
					s.refuses(c, api.ErrRight)
				}
			}
		}
	}
}

func TestOpenWithoutRoom(t *testing.T) {
	r := boot(t)
	for at := range 8 {
		r.ok(withPath(api.CallMake, 0, fmt.Sprint("d", at)))
	}
	for _, c := range []api.Call{opening("/f", 1, 1), openingAt(0, "f", 1, 1), withPath(api.CallMake, 0, "f"), linking(0, "f", "x")} {
		r.refuses(c, api.ErrFull)
	}
	for at := range 31 {
		r.ok(withPath(api.CallMake, 0, fmt.Sprint("d", at/6, "/n", at%6)))
	}
	wantSame(t, "how many objects there are", len(r.k.Objects), 40)
	for _, c := range []api.Call{opening("/d7/f", 1, 1), openingAt(0, "d7/f", 1, 1), withPath(api.CallMake, 0, "d7/f"), linking(0, "d7/f", "x"), on(api.CallPair, 0), on(api.CallFork, 0)} {
		r.refuses(c, api.ErrFull)
	}
	r.ok(withPath(api.CallUnlink, 0, "d3/n3"))
	r.refuses(on(api.CallPair, 0), api.ErrFull)
	r.dups(0, 0, 10)
	r.refuses(opening("/d7/f", 1, 1), api.ErrFull)
	r.refuses(openingAt(0, "d7", 0, 1), api.ErrFull)
	r.ok(on(api.CallClose, 4))
	r.gives(opening("/d7/f", 3, 1), 4, 0)
}

func TestOpenFilesWithoutRoom(t *testing.T) {
	r := boot(t)
	for p := 1; p < 8; p++ {
		r.gives(on(api.CallFork, 0), p, p)
	}
	for p := 1; p < 8; p++ {
		for fd := 1; fd < p; fd++ {
			r.ok(by(p, on(api.CallClose, fd)))
		}
		for len(r.k.Procs[p].Slots) < 10 && len(r.k.Opens) < 59 {
			r.gives(by(p, opening("/f", 1, 1)), len(r.k.Procs[p].Slots), 0)
		}
	}
	r.refuses(by(7, on(api.CallPair, 0)), api.ErrFull)
	r.gives(by(7, opening("/f", 1, 1)), len(r.k.Procs[7].Slots), 0)
	wantSame(t, "how many open files there are", len(r.k.Opens), 60)
	at := len(r.k.Procs[7].Slots)
	for _, c := range []api.Call{opening("/f", 2, 1), opening("/g", 1, 1), openingAt(0, "f", 3, 1), on(api.CallPair, 0)} {
		r.refuses(by(7, c), api.ErrFull)
		r.refuses(by(0, c), api.ErrFull)
	}
	r.gives(by(7, on(api.CallDup, 0)), at, 0)
}

// Nothing is made in a directory whose name has gone.
func TestNothingIsMadeInWhatHasGone(t *testing.T) {
	r := boot(t)
	r.ok(withPath(api.CallMake, 0, "d"))
	r.gives(opening("/d", 0, 4095), 1, 0)
	r.ok(withPath(api.CallUnlink, 0, "d"))
	for _, c := range []api.Call{openingAt(1, "f", 1, 1), withPath(api.CallMake, 1, "f"), linking(1, "f", "x"), withPath(api.CallUnlink, 1, "f")} {
		r.refuses(c, api.ErrNone)
	}
	r.says(on(api.CallList, 1), 0, "")
	r.gives(openingAt(1, ".", 0, 1), 2, 0)
	r.objects(dir(1, 0), dir(0, 1))
}

func TestReadAndWrite(t *testing.T) {
	r := boot(t)
	r.gives(opening("/f", 1, 7), 1, 0)
	r.says(withN(api.CallRead, 1, 9), 0, "")
	r.gives(writing(1, "hello"), 5, 0)
	r.gives(writing(1, ""), 0, 0)
	r.gives(writing(1, " you"), 4, 0)
	r.says(withN(api.CallRead, 1, 9), 0, "")
	r.ok(withN(api.CallSeek, 1, 0))
	r.says(withN(api.CallRead, 1, 0), 0, "")
	r.says(withN(api.CallRead, 1, 4), 4, "hell")
	r.gives(writing(1, "OO"), 2, 0)
	r.says(withN(api.CallRead, 1, math.MaxInt), 3, "you")
	r.opens(api.Open{Obj: 0}, api.Open{Obj: 1, At: 9})
	// A copy goes on where the other one is; what is opened anew begins.
	r.gives(on(api.CallDup, 1), 2, 0)
	r.gives(opening("/f", 0, 1), 3, 0)
	r.ok(withN(api.CallSeek, 2, 2))
	r.says(withN(api.CallRead, 1, 2), 2, "ll")
	r.says(withN(api.CallRead, 2, 2), 2, "OO")
	r.says(withN(api.CallRead, 3, 60), 9, "hellOOyou")
	// Noughts are laid between, once something is written behind.
	r.ok(withN(api.CallSeek, 1, 11))
	r.gives(writing(1, ""), 0, 0)
	r.says(withN(api.CallRead, 1, 2), 0, "")
	r.gives(writing(1, "z"), 1, 0)
	r.objects(dir(1, 0, api.Entry{Name: "f", Obj: 1}), fileOf(1, "hellOOyou\x00\x00z"))
	r.opens(api.Open{Obj: 0}, api.Open{Obj: 1, At: 12}, api.Open{Obj: 1, At: 9})
}

func TestReadAndWriteErrors(t *testing.T) {
	r := boot(t)
	r.gives(opening("/f", 1, 7), 1, 0)
	r.gives(opening("/f", 0, 1), 2, 0)
	r.gives(opening("/f", 0, 2), 3, 0)
	r.gives(opening("/f", 0, 4095-7), 4, 0)
	for _, fd := range append([]int{5, 9, 10}, farNumbers...) {
		for _, kind := range []int{api.CallRead, api.CallWrite, api.CallSeek} {
			r.refuses(withN(kind, fd, -1), api.ErrNone)
		}
	}
	for _, c := range []api.Call{writing(2, "x"), withN(api.CallSeek, 2, -1), withN(api.CallRead, 3, -1), withN(api.CallSeek, 3, -1), withN(api.CallRead, 4, -1), writing(4, "x"), withN(api.CallSeek, 4, 0)} {
		r.refuses(c, api.ErrRight)
	}
	r.gives(writing(3, "x"), 1, 0)
	r.says(withN(api.CallRead, 2, 5), 1, "x")
	r.refuses(withN(api.CallRead, 0, -1), api.ErrFile)
	r.refuses(writing(0, strings.Repeat("x", 61)), api.ErrFile)
	for _, n := range farNumbers {
		if n < 0 {
			r.refuses(withN(api.CallRead, 1, n), api.ErrRange)
		}
	}
	r.refuses(writing(1, strings.Repeat("x", 61)), api.ErrFull)
	r.gives(writing(1, strings.Repeat("y", 60)), 60, 0)
	r.refuses(writing(1, "z"), api.ErrFull)
	r.gives(writing(1, ""), 0, 0)
	r.ok(withN(api.CallSeek, 1, 59))
	r.refuses(writing(1, "zz"), api.ErrFull)
	r.gives(writing(1, "z"), 1, 0)
	r.objects(dir(1, 0, api.Entry{Name: "f", Obj: 1}), fileOf(1, strings.Repeat("y", 59)+"z"))
}

func TestSeek(t *testing.T) {
	r := boot(t)
	r.gives(opening("/f", 1, 4), 1, 0)
	for _, n := range []int{0, 1, 59, 60} {
		r.ok(withN(api.CallSeek, 1, n))
		r.opens(api.Open{Obj: 0}, api.Open{Obj: 1, At: n})
	}
	for _, n := range append([]int{61}, farNumbers...) {
		r.refuses(withN(api.CallSeek, 1, n), api.ErrRange)
	}
	// The document asks for no kind.
	r.ok(withN(api.CallSeek, 0, 3))
	r.opens(api.Open{Obj: 0, At: 3}, api.Open{Obj: 1, At: 60})
}

func TestCloseDupLimit(t *testing.T) {
	r := boot(t)
	r.gives(on(api.CallDup, 0), 1, 0)
	r.gives(on(api.CallDup, 1), 2, 0)
	r.ok(limited(1, 65), on(api.CallClose, 0))
	r.procs(live(api.Slot{}, has(0, 65), has(0, 4095)))
	r.gives(on(api.CallDup, 1), 0, 0)
	r.procs(live(has(0, 65), has(0, 65), has(0, 4095)))
	r.ok(limited(1, 65), limited(1, 0), on(api.CallClose, 2))
	r.procs(live(has(0, 65), has(0, 0)))
	for _, fd := range append([]int{2, 9, 10}, farNumbers...) {
		r.refuses(on(api.CallClose, fd), api.ErrNone)
		r.refuses(on(api.CallDup, fd), api.ErrNone)
		r.refuses(limited(fd, -1), api.ErrNone)
	}
	for _, set := range append([]int{4096}, farNumbers...) {
		r.refuses(limited(0, set), api.ErrRange)
	}
	r.refuses(limited(0, 66), api.ErrRight)
	r.refuses(limited(1, 1), api.ErrRight)
	r.dups(0, 1, 10)
	r.refuses(on(api.CallDup, 0), api.ErrFull)
	for fd := range 10 {
		r.ok(on(api.CallClose, fd))
	}
	r.procs(live())
	r.opens()
	r.refuses(on(api.CallDup, 0), api.ErrNone)
}

// Example 8: a file that no name leads to, and nobody has open, goes.
func TestWhatNobodyCanComeToGoes(t *testing.T) {
	r := boot(t)
	r.gives(opening("/f", 1, 7), 1, 0)
	r.gives(on(api.CallDup, 1), 2, 0)
	r.ok(withPath(api.CallUnlink, 0, "f"), on(api.CallClose, 1))
	r.objects(dir(1, 0), fileOf(0, ""))
	r.gives(writing(2, "still"), 5, 0)
	r.ok(on(api.CallClose, 2))
	r.objects(dir(1, 0))
	r.opens(api.Open{Obj: 0})
}

func TestStat(t *testing.T) {
	r := boot(t)
	r.gives(on(api.CallStat, 0), 2, 0)
	r.gives(opening("/f", 1, 128|2), 1, 0)
	r.gives(on(api.CallStat, 1), 1, 0)
	r.gives(writing(1, "hello"), 5, 0)
	r.gives(on(api.CallStat, 1), 1, 5)
	r.ok(withPath(api.CallMake, 0, "d"))
	r.gives(on(api.CallStat, 0), 2, 2)
	r.gives(on(api.CallPair, 0), 2, 3)
	r.gives(on(api.CallStat, 3), 4, 0)
	r.gives(sending(2, -1, "four"), 4, 0)
	r.gives(sending(2, 0, ""), 0, 0)
	r.gives(on(api.CallStat, 3), 4, 2)
	r.gives(on(api.CallStat, 2), 4, 0)
	r.gives(on(api.CallFork, 0), 1, 4)
	r.gives(on(api.CallStat, 4), 5, 1)
	r.ok(by(1, withN(api.CallExit, 0, 9)))
	r.gives(on(api.CallStat, 4), 5, 0)
	for _, fd := range append([]int{5, 9, 10}, farNumbers...) {
		r.refuses(on(api.CallStat, fd), api.ErrNone)
	}
	r.ok(limited(0, 4095-128))
	r.refuses(on(api.CallStat, 0), api.ErrRight)
	r.ok(limited(1, 128))
	r.gives(on(api.CallStat, 1), 1, 5)
}

func TestList(t *testing.T) {
	r := boot(t)
	r.says(on(api.CallList, 0), 0, "")
	r.gives(opening("/m", 1, 64), 1, 0)
	r.says(on(api.CallList, 0), 1, "m")
	r.ok(withPath(api.CallMake, 0, "z"), linking(0, "b.c_9", "no"), withPath(api.CallMake, 0, "z/in"))
	r.says(on(api.CallList, 0), 3, "b.c_9\nm\nz")
	r.gives(opening("/z", 0, 64), 2, 0)
	r.says(on(api.CallList, 2), 1, "in")
	r.refuses(on(api.CallList, 1), api.ErrDir)
	for _, fd := range append([]int{3, 9, 10}, farNumbers...) {
		r.refuses(on(api.CallList, fd), api.ErrNone)
	}
	r.ok(limited(0, 4095-64), limited(1, 0))
	r.refuses(on(api.CallList, 0), api.ErrRight)
	r.refuses(on(api.CallList, 1), api.ErrRight)
}

func TestMakeLinkUnlink(t *testing.T) {
	r := boot(t)
	r.ok(withPath(api.CallMake, 0, "d"), withPath(api.CallMake, 0, "d/e/"), linking(0, "d/l", "../d/e"), linking(0, "d/no", "/x/y"))
	r.objects(dir(1, 0, api.Entry{Name: "d", Obj: 1}),
		dir(1, 0, api.Entry{Name: "e", Obj: 2}, api.Entry{Name: "l", Obj: 3}, api.Entry{Name: "no", Obj: 4}),
		dir(1, 1), linkTo("../d/e"), linkTo("/x/y"))
	// A link on the way is followed; the last one is not.
	r.ok(withPath(api.CallMake, 0, "d/l/f"))
	r.refuses(withPath(api.CallMake, 0, "d/l"), api.ErrName)
	r.refuses(linking(0, "d/no", "z"), api.ErrName)
	r.refuses(withPath(api.CallUnlink, 0, "d/e"), api.ErrNotEmpty)
	r.refuses(withPath(api.CallUnlink, 0, "d"), api.ErrNotEmpty)
	r.ok(withPath(api.CallUnlink, 0, "d/l/f"), withPath(api.CallUnlink, 0, "d/l"), withPath(api.CallUnlink, 0, "d/e"), withPath(api.CallUnlink, 0, "d/no"))
	r.refuses(withPath(api.CallUnlink, 0, "d/e"), api.ErrNone)
	r.objects(dir(1, 0, api.Entry{Name: "d", Obj: 1}), dir(1, 0))
	r.ok(withPath(api.CallUnlink, 0, "d"))
	r.objects(dir(1, 0))
	r.procs(live(has(0, 4095)))
	r.opens(api.Open{Obj: 0})
}

func TestNamesErrorsInTheirOrder(t *testing.T) {
	r := boot(t)
	r.ok(withPath(api.CallMake, 0, "d"), linking(0, "x", "../f"), linking(0, "y", "/d"), linking(0, "r", "r"))
	r.gives(opening("/f", 1, 4095), 1, 0)
	calls := []func(int, string) api.Call{
		func(fd int, s string) api.Call { return withPath(api.CallMake, fd, s) },
		func(fd int, s string) api.Call { return linking(fd, s, "z") },
		func(fd int, s string) api.Call { return withPath(api.CallUnlink, fd, s) },
	}
	for at, call := range calls {
		for _, fd := range append([]int{2, 9, 10}, farNumbers...) {
			r.refuses(call(fd, ""), api.ErrNone)
		}
		r.refuses(call(1, ""), api.ErrDir)
		for _, wrong := range []struct {
			s   string
			err api.Errno
		}{
			{"", api.ErrForm}, {strings.Repeat("d/", 31), api.ErrMuch}, {"D", api.ErrName}, {"/d", api.ErrOut}, {"..", api.ErrOut},
			{"d/../../d", api.ErrOut}, {"x/z", api.ErrOut}, {"y/z", api.ErrOut}, {"f/z", api.ErrDir}, {"no/z", api.ErrNone},
			{"r/z", api.ErrLoop}, {".", api.ErrFit}, {"d/..", api.ErrFit}, {"d/../", api.ErrFit},
			{"f", []api.Errno{api.ErrName, api.ErrName, api.OK}[at]}, {"x", []api.Errno{api.ErrName, api.ErrName, api.OK}[at]},
			{"z", []api.Errno{api.OK, api.OK, api.ErrNone}[at]}, {"d/z", []api.Errno{api.OK, api.OK, api.ErrNone}[at]},
		} {
			s := boot(t)
			s.k = r.k
			s.do(call(0, wrong.s), api.Answer{Err: wrong.err})
		}
	}
	for _, wrong := range []struct {
		target string
		err    api.Errno
	}{{"", api.ErrForm}, {strings.Repeat("y", 61), api.ErrMuch}, {"a/B", api.ErrName}, {"a\x00", api.ErrName}} {
		for _, s := range []string{"", "/out", ".", "f", "new"} {
			r.refuses(linking(0, s, wrong.target), wrong.err)
			r.refuses(linking(1, s, wrong.target), wrong.err)
			r.refuses(linking(9, s, wrong.target), api.ErrNone)
		}
	}
}

func TestNamesNeedRights(t *testing.T) {
	for had := range 64 {
		for _, c := range []struct {
			call api.Call
			need int
		}{{withPath(api.CallMake, 0, "z"), 24}, {linking(0, "z", "BAD"), 24}, {withPath(api.CallUnlink, 0, "z"), 40}} {
			r := boot(t)
			r.ok(limited(0, had))
			if had&c.need != c.need {
				r.refuses(c.call, api.ErrRight)
			} else if _, a := Do(nil, r.k, c.call); a.Err == api.ErrRight {
				t.Errorf("%+v with %d is told that a right is missing", c.call, had)
			}
		}
	}
}

func message(s string, slots ...api.Slot) api.Message {
	m := api.Message{Data: []byte(s)}
	for _, had := range slots {
		m.Has, m.Cap = true, had.Cap
	}
	return m
}

// Example 9: what is sent to one end comes at the other one, in turn, and once.
func TestPairSendRecv(t *testing.T) {
	r := boot(t)
	r.gives(on(api.CallPair, 0), 1, 2)
	r.objects(dir(1, 0), endOf(2), endOf(1))
	r.opens(api.Open{Obj: 0}, api.Open{Obj: 1}, api.Open{Obj: 2})
	r.procs(live(has(0, 4095), has(1, 896), has(2, 896)))
	r.refuses(on(api.CallRecv, 2), api.ErrAgain)
	r.gives(sending(1, -1, "bare"), 4, 0)
	r.gives(sending(1, 0, ""), 0, 0)
	r.gives(sending(2, math.MinInt, "back"), 4, 0)
	r.objects(dir(1, 0), endOf(2, message("back")), endOf(1, message("bare"), message("", has(0, 4095))))
	r.do(on(api.CallRecv, 2), api.Answer{N: 4, M: -1, Data: []byte("bare")})
	r.ok(limited(0, 1))
	r.gives(on(api.CallRecv, 2), 0, 3)
	r.procs(live(has(0, 1), has(1, 896), has(2, 896), has(0, 4095)))
	r.refuses(on(api.CallRecv, 2), api.ErrAgain)
	r.ok(on(api.CallClose, 2))
	r.objects(dir(1, 0), endOf(-1, message("back")))
	r.refuses(sending(1, -1, "x"), api.ErrPipe)
	r.do(on(api.CallRecv, 1), api.Answer{N: 4, M: -1, Data: []byte("back")})
	r.refuses(on(api.CallRecv, 1), api.ErrPipe)
}

func TestPairTakesTheFirstSlots(t *testing.T) {
	r := boot(t)
	r.dups(0, 0, 6)
	r.ok(on(api.CallClose, 1), on(api.CallClose, 3))
	r.gives(on(api.CallPair, 0), 1, 3)
	r.procs(live(has(0, 4095), has(1, 896), has(0, 4095), has(2, 896), has(0, 4095), has(0, 4095)))
	r.dups(0, 0, 9)
	r.refuses(on(api.CallPair, 0), api.ErrFull)
	r.dups(0, 0, 10)
	r.refuses(on(api.CallPair, 0), api.ErrFull)
}

func TestSendErrorsInTheirOrder(t *testing.T) {
	r := boot(t)
	r.gives(on(api.CallPair, 0), 1, 2)
	r.gives(opening("/f", 1, 4095), 3, 0)
	much := strings.Repeat("x", 61)
	for _, fd := range append([]int{4, 9, 10}, farNumbers...) {
		r.refuses(sending(fd, 9, much), api.ErrNone)
		if fd > 0 {
			r.refuses(sending(1, fd, much), api.ErrNone)
			r.refuses(sending(3, fd, much), api.ErrNone)
		}
	}
	r.refuses(sending(3, -1, much), api.ErrFit)
	r.refuses(sending(0, 0, much), api.ErrFit)
	r.refuses(sending(1, -1, much), api.ErrMuch)
	r.gives(sending(1, 3, much[1:]), 60, 0)
	for range 3 {
		r.gives(sending(1, 0, "m"), 1, 0)
	}
	r.refuses(sending(1, -1, much), api.ErrMuch)
	r.refuses(sending(1, -1, ""), api.ErrFull)
	r.refuses(sending(1, 9, ""), api.ErrNone)
	r.gives(sending(2, -1, "m"), 1, 0)
	r.ok(on(api.CallClose, 3), limited(1, 896-256))
	r.refuses(sending(1, 9, much), api.ErrRight)
	r.ok(limited(2, 256))
	r.gives(sending(2, -1, "m"), 1, 0)
	r.refuses(on(api.CallRecv, 2), api.ErrRight)
	r.do(on(api.CallRecv, 1), api.Answer{N: 1, M: -1, Data: []byte("m")})
	r.gives(sending(2, 0, "m"), 1, 0)
	r.ok(on(api.CallClose, 1))
	r.refuses(sending(2, 9, much), api.ErrNone)
	r.refuses(sending(2, -1, much), api.ErrPipe)
}

// Of what is sent no right is asked.
func TestSendOfWhatHasNoRights(t *testing.T) {
	r := boot(t)
	r.gives(on(api.CallPair, 0), 1, 2)
	r.ok(limited(0, 0))
	r.gives(sending(1, 0, ""), 0, 0)
	r.gives(sending(1, 1, ""), 0, 0)
	r.ok(on(api.CallClose, 1))
	r.gives(on(api.CallRecv, 2), 0, 1)
	r.gives(on(api.CallRecv, 2), 0, 3)
	r.procs(live(has(0, 0), has(0, 0), has(2, 896), has(1, 896)))
}

func TestRecvErrorsInTheirOrder(t *testing.T) {
	r := boot(t)
	r.gives(on(api.CallPair, 0), 1, 2)
	for _, fd := range append([]int{3, 9, 10}, farNumbers...) {
		r.refuses(on(api.CallRecv, fd), api.ErrNone)
	}
	r.refuses(on(api.CallRecv, 0), api.ErrFit)
	r.gives(sending(1, 0, "with"), 4, 0)
	r.gives(sending(1, -1, "bare"), 4, 0)
	r.dups(0, 0, 10)
	// Without room for the capability the message stays, and what is behind waits.
	r.refuses(on(api.CallRecv, 2), api.ErrFull)
	r.gives(on(api.CallStat, 2), 4, 2)
	r.ok(on(api.CallClose, 7))
	r.do(on(api.CallRecv, 2), api.Answer{N: 4, M: 7, Data: []byte("with")})
	r.do(on(api.CallRecv, 2), api.Answer{N: 4, M: -1, Data: []byte("bare")})
	r.ok(limited(2, 896-512))
	r.refuses(on(api.CallRecv, 2), api.ErrRight)
}

// What waits is kept for whoever can come to the end, and goes with it.
func TestWhatWaitsIsComeTo(t *testing.T) {
	r := boot(t)
	r.gives(on(api.CallPair, 0), 1, 2)
	r.gives(opening("/f", 1, 3), 3, 0)
	r.gives(writing(3, "kept"), 4, 0)
	r.gives(sending(1, 3, ""), 0, 0)
	r.ok(withPath(api.CallUnlink, 0, "f"), on(api.CallClose, 3))
	r.objects(dir(1, 0), endOf(2), endOf(1, message("", has(3, 3))), fileOf(0, "kept"))
	r.opens(api.Open{Obj: 0}, api.Open{Obj: 1}, api.Open{Obj: 2}, api.Open{Obj: 3, At: 4})
	r.ok(on(api.CallClose, 2))
	r.objects(dir(1, 0), endOf(-1))
	r.opens(api.Open{Obj: 0}, api.Open{Obj: 1})
}

// Example 10: a process forks: its child is number 1, its descriptor in slot 1.
func TestFork(t *testing.T) {
	r := boot(t)
	r.gives(on(api.CallFork, 0), 1, 1)
	r.objects(dir(1, 0), procOf(1))
	r.opens(api.Open{Obj: 0}, api.Open{Obj: 1})
	r.procs(live(has(0, 4095), has(1, 3200)), live(has(0, 4095)))
	r.gives(by(1, on(api.CallFork, 0)), 2, 1)
	r.ok(by(1, on(api.CallEnter, 0)))
	r.prog = everything()
	r.gives(by(1, on(api.CallFork, 0)), 3, 2)
	r.gives(by(3, on(api.CallMode, 0)), 1, 0)
	r.gives(by(2, on(api.CallMode, 0)), 0, 0)
	for p := 4; p < 8; p++ {
		r.gives(on(api.CallFork, 0), p, p-2)
	}
	r.refuses(on(api.CallFork, 0), api.ErrFull)
	r.ok(on(api.CallKill, 5))
	r.refuses(on(api.CallFork, 0), api.ErrFull)
	r.ok(on(api.CallClose, 5))
	r.gives(on(api.CallFork, 0), 7, 5)
}

func TestForkWithoutASlot(t *testing.T) {
	r := boot(t)
	r.dups(0, 0, 10)
	r.refuses(on(api.CallFork, 0), api.ErrFull)
	r.ok(on(api.CallClose, 6))
	r.gives(on(api.CallFork, 0), 1, 6)
}

func TestExit(t *testing.T) {
	r := boot(t)
	for p := 1; p < 4; p++ {
		r.gives(on(api.CallFork, 0), p, p)
	}
	for _, code := range append([]int{256}, farNumbers...) {
		r.refuses(by(1, withN(api.CallExit, 0, code)), api.ErrRange)
	}
	r.refuses(on(api.CallWait, 1), api.ErrAgain)
	for p, code := range []int{0, 0, 255, 7} {
		if p > 0 {
			r.ok(by(p, withN(api.CallExit, 0, code)))
			r.gives(on(api.CallWait, p), code, 0)
			r.refuses(by(p, on(api.CallMode, 0)), api.ErrNone)
		}
	}
	r.gives(on(api.CallWait, 3), 7, 0)
	r.procs(live(has(0, 4095), has(1, 3200), has(2, 3200), has(3, 3200)), api.Proc{}, api.Proc{Code: 255}, api.Proc{Code: 7})
	r.ok(withN(api.CallExit, 0, 1))
	wantSame(t, "what is left", r.k, api.Kernel{Objects: []api.Object{dir(1, 0)}, Procs: []api.Proc{{Code: 1}}})
}

func TestKill(t *testing.T) {
	r := boot(t)
	r.gives(on(api.CallFork, 0), 1, 1)
	r.gives(by(1, on(api.CallFork, 0)), 2, 1)
	r.gives(on(api.CallPair, 0), 2, 3)
	for _, fd := range append([]int{4, 9, 10}, farNumbers...) {
		r.refuses(on(api.CallKill, fd), api.ErrNone)
		r.refuses(on(api.CallWait, fd), api.ErrNone)
	}
	r.refuses(on(api.CallKill, 0), api.ErrFit)
	r.refuses(on(api.CallWait, 0), api.ErrFit)
	r.refuses(on(api.CallKill, 2), api.ErrRight)
	r.refuses(on(api.CallWait, 2), api.ErrRight)
	c := withN(api.CallKill, 1, 9)
	r.ok(c)
	r.procs(live(has(0, 4095), has(1, 3200), has(3, 896), has(4, 896)), api.Proc{Code: 255})
	r.refuses(c, api.ErrNone)
	r.gives(on(api.CallWait, 1), 255, 0)
	r.ok(limited(1, 1024))
	r.refuses(c, api.ErrRight)
	r.gives(on(api.CallWait, 1), 255, 0)
	r.ok(limited(1, 0))
	r.refuses(on(api.CallWait, 1), api.ErrRight)
}

// The right to kill is none to wait, and a descriptor that was sent serves as
// well, be it of oneself.
func TestKillBySomebodyElse(t *testing.T) {
	r := boot(t)
	r.gives(on(api.CallPair, 0), 1, 2)
	r.gives(on(api.CallFork, 0), 1, 3)
	r.gives(on(api.CallFork, 0), 2, 4)
	r.ok(limited(3, 2048))
	r.gives(sending(1, 3, ""), 0, 0)
	r.gives(sending(1, 4, ""), 0, 0)
	r.gives(by(2, on(api.CallRecv, 2)), 0, 4)
	r.gives(by(2, on(api.CallRecv, 2)), 0, 5)
	r.refuses(by(2, on(api.CallWait, 4)), api.ErrRight)
	r.refuses(by(2, on(api.CallWait, 5)), api.ErrAgain)
	r.ok(by(2, on(api.CallKill, 4)), by(2, on(api.CallKill, 5)))
	r.refuses(on(api.CallWait, 3), api.ErrRight)
	r.gives(on(api.CallWait, 4), 255, 0)
	r.procs(live(has(0, 4095), has(1, 896), has(2, 896), has(3, 2048), has(4, 3200)), api.Proc{Code: 255}, api.Proc{Code: 255})
}

// Who has no descriptor of a child any more lets it end.
func TestACloseEndsTheChild(t *testing.T) {
	r := boot(t)
	r.gives(on(api.CallFork, 0), 1, 1)
	r.gives(by(1, on(api.CallFork, 0)), 2, 1)
	r.gives(by(2, opening("/f", 1, 1)), 1, 0)
	r.ok(on(api.CallClose, 1))
	r.procs(live(has(0, 4095)))
	r.opens(api.Open{Obj: 0})
	r.objects(dir(1, 0, api.Entry{Name: "f", Obj: 3}), api.Object{}, api.Object{}, fileOf(1, ""))
	r.refuses(by(2, on(api.CallMode, 0)), api.ErrNone)
}

// Number 0 is a number as others are, once its process doesn't live, and others
// live on by what they have of one another.
func TestNumber0ComesAgain(t *testing.T) {
	r := boot(t)
	r.gives(on(api.CallFork, 0), 1, 1)
	r.gives(on(api.CallPair, 0), 2, 3)
	r.gives(on(api.CallFork, 0), 2, 4)
	r.gives(sending(2, 4, ""), 0, 0)
	r.gives(by(2, on(api.CallRecv, 3)), 0, 4)
	r.ok(withN(api.CallExit, 0, 5))
	r.gives(by(2, on(api.CallFork, 0)), 0, 5)
	r.refuses(by(2, on(api.CallWait, 5)), api.ErrAgain)
	r.gives(by(2, on(api.CallStat, 5)), 5, 1)
	r.gives(on(api.CallMode, 0), 0, 0)
	r.ok(withN(api.CallExit, 0, 7))
	r.gives(by(2, on(api.CallWait, 5)), 7, 0)
	r.gives(by(2, on(api.CallStat, 5)), 5, 0)
	r.refuses(by(2, on(api.CallKill, 5)), api.ErrNone)
	r.ok(by(2, on(api.CallClose, 4)))
	wantSame(t, "what is left", r.k, api.Kernel{Objects: []api.Object{dir(1, 0)}, Procs: []api.Proc{{Code: 7}}})
}

// Once inside, always inside.
func TestEnterAndMode(t *testing.T) {
	r := boot(t)
	r.prog = everything()
	r.gives(on(api.CallFork, 0), 1, 1)
	r.gives(on(api.CallMode, 0), 0, 0)
	for range 2 {
		r.ok(on(api.CallEnter, 0))
		r.gives(on(api.CallMode, 0), 1, 0)
		r.gives(by(1, on(api.CallMode, 0)), 0, 0)
	}
	r.procs(api.Proc{Live: true, Fenced: true, Slots: []api.Slot{has(0, 4095), has(1, 3200)}}, live(has(0, 4095)))
	r.gives(by(1, opening("/f", 1, 1)), 1, 0)
	r.refuses(opening("/f", 0, 1), api.ErrGate)
	r.ok(withN(api.CallExit, 0, 3))
	r.procs(api.Proc{Fenced: true, Code: 3})
}
