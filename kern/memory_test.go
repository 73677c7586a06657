package kern

import (
	"fmt"
	"slices"
	"strings"
	"testing"

	"ringfence/api"
	"ringfence/procs"
)

// some has a list of every sort, open files and a number that have gone, and
// processes inside and outside.
func some(t *testing.T) api.Kernel {
	t.Helper()
	r := boot(t)
	r.gives(on(api.CallFork, 0), 1, 1)
	r.gives(on(api.CallFork, 0), 2, 2)
	r.gives(opening("/f", 1, 4095), 3, 0)
	r.gives(writing(3, "hello"), 5, 0)
	r.ok(withN(api.CallSeek, 3, 1), withPath(api.CallMake, 0, "d"), linking(0, "l", "d"))
	r.gives(on(api.CallPair, 0), 4, 5)
	r.gives(sending(4, 3, "with"), 4, 0)
	r.gives(sending(4, -1, "bare"), 4, 0)
	r.ok(by(1, on(api.CallEnter, 0)), by(2, withN(api.CallExit, 0, 9)))
	r.gives(opening("/f", 0, 4095), 6, 0)
	return r.k
}

// someDone are calls that are done to what some answers, one of each kind at
// least.
func someDone() []api.Call {
	return []api.Call{
		on(api.CallEnter, 0), by(1, on(api.CallEnter, 0)), opening("/g", 1, 3), opening("/f", 2, 3), opening("/f", 0, 3),
		openingAt(0, "l/g", 1, 3), openingAt(0, "f", 2, 3), withN(api.CallRead, 3, 2), withN(api.CallRead, 3, 60),
		writing(3, "HELLO HELLO"), writing(3, "x"), writing(3, ""), withN(api.CallSeek, 3, 4), on(api.CallClose, 3), on(api.CallClose, 6),
		on(api.CallDup, 3), limited(0, 1), on(api.CallStat, 5), on(api.CallList, 0), withPath(api.CallMake, 0, "new"),
		linking(0, "new", "hello/you"), withPath(api.CallUnlink, 0, "f"), on(api.CallPair, 0), sending(4, 0, "more"), sending(5, -1, "back"),
		on(api.CallRecv, 5), on(api.CallFork, 0), by(1, on(api.CallFork, 0)), withN(api.CallExit, 0, 3), by(1, withN(api.CallExit, 0, 3)),
		on(api.CallKill, 1), on(api.CallWait, 2), on(api.CallMode, 0),
	}
}

// someRefused are calls that are refused, some of them halfway.
func someRefused() []api.Call {
	return []api.Call{
		by(2, on(api.CallMode, 0)), on(0, 0), by(1, opening("/f", 0, 1)), opening("/d", 2, 3), withN(api.CallRead, 0, 1),
		writing(3, strings.Repeat("x", 60)), on(api.CallClose, 9), limited(3, -1), linking(0, "f", "hello"), on(api.CallRecv, 4), on(api.CallWait, 1),
	}
}

func TestSomeCalls(t *testing.T) {
	k := some(t)
	kinds := map[int]int{}
	for _, c := range someDone() {
		_, a := Do(everything(), k, c)
		wantSame(t, fmt.Sprintf("the error of %+v", c), a.Err, api.OK)
		kinds[c.Kind]++
	}
	wantSame(t, "how many kinds there are", len(kinds), 22)
	for _, c := range someRefused() {
		if _, a := Do(everything(), k, c); a.Err == api.OK {
			t.Errorf("%+v is not refused", c)
		}
	}
}

func behind[T any](l []T, more ...T) []T {
	return append(slices.Clone(l), more...)[:len(l)]
}

// roomy lays something behind each list, so that it shows if a call looks at
// it, or writes there.
func roomy(k api.Kernel) api.Kernel {
	k.Objects = behind(k.Objects, dir(1, 0), procOf(2), procOf(4))
	for at := range k.Objects {
		o := &k.Objects[at]
		o.Data = behind(o.Data, 'B', 'B')
		o.Entries = behind(o.Entries, api.Entry{Name: "new", Obj: 1}, api.Entry{Name: "z", Obj: 2})
		o.Queue = behind(o.Queue, api.Message{}, api.Message{Has: true})
		for i := range o.Queue {
			o.Queue[i].Data = behind(o.Queue[i].Data, 'B', 'B')
		}
	}
	k.Opens = behind(k.Opens, api.Open{Obj: 1}, api.Open{Obj: 2})
	k.Procs = behind(k.Procs, live(has(1, 1)), live(has(2, 2)))
	for p := range k.Procs {
		k.Procs[p].Slots = behind(k.Procs[p].Slots, has(1, 1), has(2, 2))
	}
	return k
}

// memory is lists, with their spare room: what tells each one, without the
// lists that are in it, and what spoils it.
type memory struct {
	tells  []func() string
	spoils []func()
}

func add[T any](m *memory, l []T, bad T) {
	l = l[:cap(l)]
	m.tells = append(m.tells, func() string {
		var out []string
		for _, x := range l {
			out = append(out, told(shallow(x)))
		}
		return strings.Join(out, " ")
	})
	m.spoils = append(m.spoils, func() {
		for at := range l {
			l[at] = bad
		}
	})
}

func shallow(x any) any {
	switch o := x.(type) {
	case api.Object:
		o.Data, o.Entries, o.Queue = nil, nil, nil
		return o
	case api.Message:
		o.Data = nil
		return o
	case api.Proc:
		o.Slots = nil
		return o
	case api.Policy:
		o.Masks = nil
		return o
	case api.Call:
		o.Data = nil
		return o
	case api.Answer:
		o.Data = nil
		return o
	}
	return x
}

func (m *memory) tell() string {
	var out []string
	for _, tell := range m.tells {
		out = append(out, tell())
	}
	return strings.Join(out, "\n")
}

func (m *memory) spoil() {
	for _, bad := range m.spoils {
		bad()
	}
}

func (m *memory) kernel(k api.Kernel) {
	for _, o := range k.Objects[:cap(k.Objects)] {
		add(m, o.Data, '!')
		add(m, o.Entries, api.Entry{Name: "!"})
		for _, x := range o.Queue[:cap(o.Queue)] {
			add(m, x.Data, '!')
		}
		add(m, o.Queue, api.Message{Cap: api.Cap{Open: -9}})
	}
	for _, p := range k.Procs[:cap(k.Procs)] {
		add(m, p.Slots, has(-9, -9))
	}
	add(m, k.Objects, api.Object{Kind: -9})
	add(m, k.Opens, api.Open{Obj: -9, At: -9})
	add(m, k.Procs, api.Proc{Code: -9})
}

// doing is what is handed in to Do, all with spare room, and what comes of it.
type doing struct {
	k      api.Kernel
	a      api.Answer
	in     memory
	before string
}

func doRoomy(k api.Kernel, c api.Call) *doing {
	var d doing
	prog := behind(everything(), api.Instr{Op: 9}, api.Instr{Op: 9})
	room := roomy(k)
	c.Data = behind(c.Data, 'B', 'B')
	add(&d.in, prog, api.Instr{Op: -9})
	add(&d.in, c.Data, '!')
	d.in.kernel(room)
	d.before = d.in.tell()
	d.k, d.a = Do(prog, room, c)
	return &d
}

func (d *doing) out() *memory {
	var m memory
	m.kernel(d.k)
	add(&m, d.a.Data, '!')
	return &m
}

func TestWhatDoIsHandedIsOnlyReadAndNotKept(t *testing.T) {
	k := some(t)
	for _, c := range slices.Concat(someDone(), someRefused()) {
		want, wantAnswer := Do(everything(), k, c)
		d := doRoomy(k, c)
		if d.in.tell() != d.before {
			t.Errorf("what was handed in with %+v is another one", c)
		}
		wantSame(t, fmt.Sprintf("with spare room behind, what comes of %+v", c), []any{d.k, d.a}, []any{want, wantAnswer})
		d.in.spoil()
		wantSame(t, fmt.Sprintf("once all is changed, what came of %+v", c), []any{d.k, d.a}, []any{want, wantAnswer})
	}
}

func TestWhatDoAnswersIsNew(t *testing.T) {
	k := some(t)
	for _, c := range slices.Concat(someDone(), someRefused()) {
		d := doRoomy(k, c)
		d.out().spoil()
		if d.in.tell() != d.before {
			t.Errorf("what comes of %+v shares memory with what was handed in", c)
		}
		for i := range d.out().spoils {
			m := doRoomy(k, c).out()
			one := m.spoils[i]
			m.tells = slices.Delete(m.tells, i, i+1)
			before := m.tell()
			one()
			if m.tell() != before {
				t.Errorf("list %d of what comes of %+v shares memory with another one there", i, c)
			}
		}
	}
}

// playing is what is handed in to Play, all with spare room.
func playing(in *memory) ([]api.Policy, []api.Call) {
	l := behind(somePolicies(), api.Policy{Call: -1}, api.Policy{Call: -1})
	for at := range l {
		l[at].Masks = behind(l[at].Masks, api.Mask{Word: 3, Bits: 1 << 31}, api.Mask{})
		add(in, l[at].Masks, api.Mask{Word: -9})
	}
	cs := behind(someCalls(), on(api.CallExit, 0), on(api.CallExit, 0))
	for at := range cs {
		cs[at].Data = behind(cs[at].Data, 'B', 'B')
		add(in, cs[at].Data, '!')
	}
	add(in, l, api.Policy{Call: -9})
	add(in, cs, api.Call{Kind: -9})
	return l, cs
}

func TestWhatPlayIsHandedIsOnlyReadAndNotKept(t *testing.T) {
	want, wantAnswers, _ := Play(somePolicies(), someCalls())
	var in, out memory
	l, cs := playing(&in)
	before := in.tell()
	k, answers, err := Play(l, cs)
	if in.tell() != before {
		t.Error("what was handed in is another one")
	}
	wantSame(t, "with spare room behind, what Play answers", []any{k, answers, err}, []any{want, wantAnswers, api.OK})
	in.spoil()
	wantSame(t, "once all is changed, what Play answered", []any{k, answers, err}, []any{want, wantAnswers, api.OK})
	in = memory{}
	l, cs = playing(&in)
	k, answers, _ = Play(l, cs)
	out.kernel(k)
	for _, a := range answers {
		add(&out, a.Data, '!')
	}
	add(&out, answers, api.Answer{N: -9})
	out.spoil()
	if in.tell() != before {
		t.Error("what Play answers shares memory with what was handed in")
	}
}

// odd are kernels that no call makes.
func odd() []api.Kernel {
	kernels := []api.Kernel{
		{},
		{Procs: []api.Proc{live()}},
		{Procs: []api.Proc{live(has(0, 4095))}},
		{Opens: make([]api.Open, 1), Procs: []api.Proc{live(has(0, 4095))}},
		{Objects: make([]api.Object, 90), Opens: make([]api.Open, 90), Procs: make([]api.Proc, 90)},
	}
	for _, n := range append([]int{0, 1, 2, 3, 4, 5, 8}, farNumbers...) {
		entries := []api.Entry{{Name: "a", Obj: n}, {Name: "b", Obj: 1}}
		queue := []api.Message{{Has: true, Cap: api.Cap{Open: n, Rights: n}}}
		k := api.Kernel{
			Opens: []api.Open{{Obj: 1, At: n}, {Obj: n}},
			Procs: []api.Proc{live(has(0, 4095), has(1, 4095), has(n, 4095), has(0, n)), {Code: n}},
		}
		for kind := -1; kind < 7; kind++ {
			k := k
			k.Objects = []api.Object{
				dir(n, n, entries...),
				{Kind: kind, Data: make([]byte, 90), Entries: entries, Target: "../a/b", Peer: n, Queue: queue, Proc: n, Links: n, Up: n},
			}
			kernels = append(kernels, k)
			k.Objects = k.Objects[1:]
			kernels = append(kernels, k)
		}
	}
	return kernels
}

func TestNoCallPanics(t *testing.T) {
	numbers := append([]int{0, 1, 2, 3, 4, 8}, farNumbers...)
	for _, k := range odd() {
		for kind := 0; kind <= 23; kind++ {
			for at, n := range numbers {
				c := api.Call{Kind: kind, FD: n, FD2: numbers[at/2], N: n, Flags: at % 4, Rights: n & 4095, Path: []string{"a", "b/a", "../a", "."}[at%4]}
				Do(nil, k, c)
				Do(everything(), k, by(n, c))
				Record(c)
			}
		}
	}
}

func TestWrongNumbersInEveryField(t *testing.T) {
	k := some(t)
	for kind := 0; kind <= 23; kind++ {
		for _, n := range farNumbers {
			for _, fd := range []int{0, 3, 5, n} {
				Do(nil, k, api.Call{Kind: kind, FD: fd, FD2: n, N: n, Flags: n, Rights: n})
				Play(nil, []api.Call{{Proc: n, Kind: kind}, {Kind: kind, FD: fd, FD2: n, N: n, Flags: n, Rights: n}})
				Play([]api.Policy{{Call: n}}, nil)
			}
		}
	}
}

// Of a kernel that no call makes: a capability of no open file, or of what is
// no object, and a descriptor of no process, are none.
func TestWhatLeadsNowhereIsNone(t *testing.T) {
	for _, n := range append([]int{2, 3}, farNumbers...) {
		k := procs.Boot()
		k.Objects = append(k.Objects, procOf(n))
		k.Opens = append(k.Opens, api.Open{Obj: n}, api.Open{Obj: 1})
		k.Procs[0].Slots = append(k.Procs[0].Slots, has(n, 4095), has(1, 4095), has(2, 4095))
		fds := []int{1, 2}
		if n == 2 {
			fds = []int{2}
		}
		for _, fd := range fds {
			_, a := Do(nil, k, on(api.CallStat, fd))
			wantSame(t, fmt.Sprintf("Stat of %d in %+v", fd, k), a, api.Answer{Err: api.ErrNone})
		}
		for _, kind := range []int{api.CallWait, api.CallKill} {
			_, a := Do(nil, k, on(kind, 3))
			wantSame(t, fmt.Sprintf("call %d in %+v", kind, k), a, api.Answer{Err: api.ErrNone})
		}
	}
}
