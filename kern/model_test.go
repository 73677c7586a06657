package kern

import (
	"fmt"
	"slices"
	"strings"
	"testing"

	"ringfence/api"
	"ringfence/gate"
	"ringfence/path"
	"ringfence/procs"
	"ringfence/sweep"
	"ringfence/table"
)

// A model of what calls do, by pointers where the program has numbers: what
// nobody can come to is no more, without anything being freed.

type thing struct {
	kind   int
	data   []byte
	names  map[string]*thing
	target string
	up     *thing // of a directory
	gone   bool   // a directory whose name went
	peer   *thing
	queue  []letter
	of     *person
}

type file struct {
	of *thing
	at int
}

type grip struct {
	file *file
	set  int
}

type letter struct {
	data []byte
	grip *grip
}

type person struct {
	live, fenced bool
	code         int
	holds        [10]*grip
}

type world struct {
	root   *thing
	people [8]*person
	l      []api.Policy
}

func newDir(up *thing) *thing { return &thing{kind: 2, names: map[string]*thing{}, up: up} }

func newWorld(l []api.Policy) *world {
	w := &world{root: newDir(nil), l: l}
	w.root.up = w.root
	w.people[0] = &person{live: true}
	w.people[0].holds[0] = &grip{&file{of: w.root}, 4095}
	return w
}

// seen is what one can come to.
type seen struct {
	things map[*thing]bool
	files  map[*file]bool
}

func (w *world) see() seen {
	s := seen{map[*thing]bool{}, map[*file]bool{}}
	s.thing(w.root)
	for _, p := range w.people {
		if p != nil && p.live {
			for _, g := range p.holds {
				s.grip(g)
			}
		}
	}
	return s
}

func (s seen) grip(g *grip) {
	if g != nil {
		s.files[g.file] = true
		s.thing(g.file.of)
	}
}

func (s seen) thing(o *thing) {
	if s.things[o] {
		return
	}
	s.things[o] = true
	for _, x := range o.names {
		s.thing(x)
	}
	for _, m := range o.queue {
		s.grip(m.grip)
	}
}

func (s seen) known(p *person) bool {
	for o := range s.things {
		if o.kind == 5 && o.of == p {
			return true
		}
	}
	return false
}

// settle ends those of whom nobody knows, over and over.
func (w *world) settle() {
	for ended := true; ended; {
		ended = false
		s := w.see()
		for n, p := range w.people[1:] {
			if p != nil && !s.known(p) {
				ended = ended || p.live
				w.people[n+1] = nil
			}
		}
	}
	s := w.see()
	for o := range s.things {
		if o.peer != nil && !s.things[o.peer] {
			o.peer = nil
		}
	}
}

// must refuses the call: nothing may be changed ahead of it.
func must(holds bool, err api.Errno) {
	if !holds {
		panic(err)
	}
}

func (w *world) do(c api.Call) (a api.Answer) {
	defer func() {
		switch x := recover().(type) {
		case nil:
		case api.Errno:
			a = api.Answer{Err: x}
		default:
			panic(x)
		}
	}()
	must(c.Proc >= 0 && c.Proc < 8 && w.people[c.Proc] != nil && w.people[c.Proc].live, api.ErrNone)
	must(c.Kind >= 1 && c.Kind <= 22, api.ErrKind)
	p := w.people[c.Proc]
	must(!p.fenced || c.Kind != 2 && gate.Allows(w.l, wordsOf(c)), api.ErrGate)
	a = w.byKind(p, c)
	w.settle()
	return a
}

func wordsOf(c api.Call) [6]int {
	var r [6]int
	for at, n := range []int{c.Kind, c.FD, c.FD2, c.N, c.Flags, c.Rights} {
		r[at] = int(uint64(n) % (1 << 31))
	}
	return r
}

func (w *world) byKind(p *person, c api.Call) api.Answer {
	switch c.Kind {
	case 2, 3:
		return w.open(p, c)
	case 4, 5, 6:
		return bytesOf(p, c)
	case 7, 8, 9:
		return slotsOf(p, c)
	case 10, 11:
		return lookAt(p, c)
	case 12, 13, 14:
		w.names(p, c)
	case 15, 16, 17:
		return w.ends(p, c)
	case 18:
		return w.fork(p)
	case 19:
		must(c.N >= 0 && c.N <= 255, api.ErrRange)
		p.end(c.N)
	case 20, 21:
		return others(p, c)
	case 1:
		p.fenced = true
	case 22:
		return api.Answer{N: map[bool]int{true: 1}[p.fenced]}
	}
	return api.Answer{}
}

func (p *person) end(code int) {
	*p = person{fenced: p.fenced, code: code}
}

func (p *person) had(fd int) *grip {
	must(fd >= 0 && fd < 10 && p.holds[fd] != nil, api.ErrNone)
	return p.holds[fd]
}

func (p *person) with(fd, set int) *file {
	g := p.had(fd)
	must(g.set|set == g.set, api.ErrRight)
	return g.file
}

// room refuses, if there are not as many slots that have none.
func (p *person) room(n int) {
	for _, g := range p.holds {
		if g == nil {
			n--
		}
	}
	must(n <= 0, api.ErrFull)
}

func (p *person) put(g *grip) int {
	at := slices.Index(p.holds[:], nil)
	p.holds[at] = g
	return at
}

// found is what a path leads to; of what is none at is nil, and in and name
// say where it would be.
type found struct {
	at, in *thing
	name   string
}

func (w *world) walk(base *thing, s string, fence, follow bool) found {
	must(base.kind == 2, api.ErrDir)
	at, left := base, w.parts(&base, s, fence)
	for hops := 0; len(left) > 0; {
		part := left[0]
		left = left[1:]
		must(at.kind == 2, api.ErrDir)
		if part == ".." {
			must(!fence || at != base, api.ErrOut)
			at = at.up
			continue
		}
		next := at.names[part]
		switch {
		case next != nil && next.kind == 3 && (follow || len(left) > 0):
			must(hops < 6, api.ErrLoop)
			hops++
			left = append(w.parts(&at, next.target, fence), left...)
		case len(left) == 0:
			return found{next, at, part}
		default:
			must(next != nil, api.ErrNone)
			at = next
		}
	}
	must(at.kind == 2, api.ErrDir)
	return found{at: at}
}

// parts has one stand at the root, if that is where the path begins.
func (w *world) parts(at **thing, s string, fence bool) []string {
	l, fromRoot, err := path.Split(s)
	must(err == api.OK, err)
	must(!fromRoot || !fence, api.ErrOut)
	if fromRoot {
		*at = w.root
	}
	return l
}

func (w *world) open(p *person, c api.Call) api.Answer {
	must(c.Rights >= 0 && c.Rights < 4096 && c.Flags >= 0 && c.Flags < 4, api.ErrRange)
	create, trunc := c.Flags%2 == 1, c.Flags > 1
	var f found
	if c.Kind == 2 {
		f = w.walk(w.root, c.Path, false, true)
	} else {
		set := c.Rights | 8
		if create {
			set |= 16
		}
		if trunc {
			set |= 2
		}
		f = w.walk(p.with(c.FD, set).of, c.Path, true, true)
	}
	if f.at == nil {
		must(create, api.ErrNone)
		w.mayEnter(f.in)
	}
	must(f.at == nil || !trunc || f.at.kind != 2, api.ErrFile)
	must(len(w.see().files) < 60, api.ErrFull)
	p.room(1)
	if f.at == nil {
		f.at = &thing{kind: 1}
		f.in.names[f.name] = f.at
	}
	if trunc {
		f.at.data = nil
	}
	return api.Answer{N: p.put(&grip{&file{of: f.at}, c.Rights})}
}

func (w *world) mayEnter(in *thing) {
	must(len(w.see().things) < 40, api.ErrFull)
	must(!in.gone, api.ErrNone)
	must(len(in.names) < 8, api.ErrFull)
}

func bytesOf(p *person, c api.Call) api.Answer {
	f := p.with(c.FD, map[int]int{4: 1, 5: 2, 6: 4}[c.Kind])
	if c.Kind == 6 {
		must(c.N >= 0 && c.N <= 60, api.ErrRange)
		f.at = c.N
		return api.Answer{}
	}
	must(f.of.kind != 2, api.ErrFile)
	must(f.of.kind == 1, api.ErrFit)
	if c.Kind == 4 {
		must(c.N >= 0, api.ErrRange)
		var out []byte
		for ; len(out) < c.N && f.at < len(f.of.data); f.at++ {
			out = append(out, f.of.data[f.at])
		}
		return api.Answer{N: len(out), Data: out}
	}
	must(f.at+len(c.Data) <= 60, api.ErrFull)
	for _, b := range c.Data {
		for len(f.of.data) <= f.at {
			f.of.data = append(f.of.data, 0)
		}
		f.of.data[f.at] = b
		f.at++
	}
	return api.Answer{N: len(c.Data)}
}

func slotsOf(p *person, c api.Call) api.Answer {
	g := p.had(c.FD)
	switch c.Kind {
	case 7:
		p.holds[c.FD] = nil
	case 8:
		p.room(1)
		return api.Answer{N: p.put(g)}
	case 9:
		must(c.Rights >= 0 && c.Rights < 4096, api.ErrRange)
		must(c.Rights|g.set == g.set, api.ErrRight)
		p.holds[c.FD] = &grip{g.file, c.Rights}
	}
	return api.Answer{}
}

func lookAt(p *person, c api.Call) api.Answer {
	o := p.with(c.FD, map[int]int{10: 128, 11: 64}[c.Kind]).of
	if c.Kind == 10 {
		size := len(o.data) + len(o.names) + len(o.queue)
		if o.kind == 5 && o.of.live {
			size = 1
		}
		return api.Answer{N: o.kind, M: size}
	}
	must(o.kind == 2, api.ErrDir)
	var names []string
	for name := range o.names {
		names = append(names, name)
	}
	slices.Sort(names)
	return api.Answer{N: len(names), Data: []byte(strings.Join(names, "\n"))}
}

func (w *world) names(p *person, c api.Call) {
	base := p.with(c.FD, map[int]int{12: 24, 13: 24, 14: 40}[c.Kind]).of
	if c.Kind == 13 {
		_, _, err := path.Split(string(c.Data))
		must(err == api.OK, err)
	}
	f := w.walk(base, c.Path, true, false)
	must(f.name != "", api.ErrFit)
	if c.Kind == 14 {
		must(f.at != nil, api.ErrNone)
		must(len(f.at.names) == 0, api.ErrNotEmpty)
		delete(f.in.names, f.name)
		f.at.gone, f.at.up = true, f.at
		return
	}
	must(f.at == nil, api.ErrName)
	w.mayEnter(f.in)
	f.in.names[f.name] = newDir(f.in)
	if c.Kind == 13 {
		f.in.names[f.name] = &thing{kind: 3, target: string(c.Data)}
	}
}

func (w *world) ends(p *person, c api.Call) api.Answer {
	switch c.Kind {
	case 15:
		return w.pair(p)
	case 16:
		return send(p, c)
	}
	end := p.with(c.FD, 512).of
	must(end.kind == 4, api.ErrFit)
	must(len(end.queue) > 0 || end.peer != nil, api.ErrPipe)
	must(len(end.queue) > 0, api.ErrAgain)
	m := end.queue[0]
	a := api.Answer{N: len(m.data), M: -1, Data: m.data}
	if m.grip != nil {
		p.room(1)
		a.M = p.put(m.grip)
	}
	end.queue = end.queue[1:]
	return a
}

func (w *world) pair(p *person) api.Answer {
	s := w.see()
	must(len(s.things) <= 38 && len(s.files) <= 58, api.ErrFull)
	p.room(2)
	a, b := &thing{kind: 4}, &thing{kind: 4}
	a.peer, b.peer = b, a
	return api.Answer{N: p.put(&grip{&file{of: a}, 896}), M: p.put(&grip{&file{of: b}, 896})}
}

func send(p *person, c api.Call) api.Answer {
	end := p.with(c.FD, 256).of
	m := letter{data: slices.Clone(c.Data)}
	if c.FD2 >= 0 {
		m.grip = p.had(c.FD2)
	}
	must(end.kind == 4, api.ErrFit)
	must(end.peer != nil, api.ErrPipe)
	must(len(c.Data) <= 60, api.ErrMuch)
	must(len(end.peer.queue) < 4, api.ErrFull)
	end.peer.queue = append(end.peer.queue, m)
	return api.Answer{N: len(c.Data)}
}

func (w *world) fork(p *person) api.Answer {
	s := w.see()
	child := slices.IndexFunc(w.people[:], func(q *person) bool { return q == nil || !q.live && !s.known(q) })
	must(child >= 0, api.ErrFull)
	must(len(s.things) < 40 && len(s.files) < 60, api.ErrFull)
	p.room(1)
	q := &person{live: true, fenced: p.fenced, holds: p.holds}
	w.people[child] = q
	return api.Answer{N: child, M: p.put(&grip{&file{of: &thing{kind: 5, of: q}}, 3200})}
}

func others(p *person, c api.Call) api.Answer {
	o := p.with(c.FD, map[int]int{20: 2048, 21: 1024}[c.Kind]).of
	must(o.kind == 5, api.ErrFit)
	if c.Kind == 20 {
		must(o.of.live, api.ErrNone)
		o.of.end(255)
		return api.Answer{}
	}
	must(!o.of.live, api.ErrAgain)
	return api.Answer{N: o.of.code}
}

// numbers are the same ones each time, so that a failure can be looked at again.
func numbers(state uint64) func(below int) int {
	return func(below int) int {
		state = state*6364136223846793005 + 1442695040888963407
		return int((state >> 33) % uint64(below))
	}
}

func pick[T any](next func(int) int, l ...T) T { return l[next(len(l))] }

// anyCall has calls of each kind, most of them by a process that lives, of
// what it has, and such as go with that.
func anyCall(next func(int) int, k api.Kernel) api.Call {
	c := api.Call{
		Proc:   next(10) - 1,
		Kind:   pick(next, 2, 3, 7, 8, 9, 10, 15, 18, 22, 1+next(22), 1+next(22), next(40)-8),
		FD:     next(12) - 1,
		FD2:    pick(next, -1, 0, 1, next(12)-1),
		N:      pick(next, 0, 1, 5, 20, 60, next(400)-60),
		Flags:  pick(next, 0, 1, 1, 2, 3, 1, 0, next(6)-1),
		Rights: pick(next, 4095, 4095, 4095, 4095-1<<next(12), 1, 3|8|16|64, next(4096), next(5000)-400),
		Path:   pick(next, "a", "b", "a/b", "a/c", "b/d", "l", "a/l", fmt.Sprint("n", next(12)), fmt.Sprint("a/n", next(12)), fmt.Sprint("b/n", next(12)), "l/b", "../a", ".", "..", "b/..", "/a", "/a/b", "/", "BAD", "", strings.Repeat("a/", 40)),
		Data:   []byte(pick(next, "", "x", "hello", "a", "../b", "b/./c", "/a", "l", "BAD!", strings.Repeat("y", 30), strings.Repeat("z", 59+next(3)))),
	}
	var live []int
	for p, o := range k.Procs {
		if o.Live {
			live = append(live, p)
		}
	}
	if len(live) == 0 || next(30) == 0 {
		return c
	}
	c.Proc = pick(next, live...)
	if had := table.All(k.Procs[c.Proc].Slots); len(had) > 0 && next(12) > 0 {
		c.FD = pick(next, had...)
		if next(2) > 0 {
			c.Kind = kindFor(next, k.Objects[k.Opens[k.Procs[c.Proc].Slots[c.FD].Cap.Open].Obj].Kind)
		}
	}
	// Who enters, exits or kills does so seldom: what comes behind is poorer.
	if (c.Kind == api.CallEnter || c.Kind == api.CallExit || c.Kind == api.CallKill) && next(4) > 0 {
		c.Kind = api.CallStat
	}
	return c
}

func kindFor(next func(int) int, kind int) int {
	switch kind {
	case api.ObjFile:
		return pick(next, api.CallRead, api.CallWrite, api.CallWrite, api.CallSeek)
	case api.ObjDir:
		return pick(next, api.CallOpenAt, api.CallOpenAt, api.CallList, api.CallMake, api.CallMake, api.CallLink, api.CallUnlink)
	case api.ObjEnd:
		return pick(next, api.CallSend, api.CallSend, api.CallRecv)
	}
	return pick(next, api.CallWait, api.CallWait, api.CallKill)
}

func anyPolicies(next func(int) int) []api.Policy {
	var l []api.Policy
	for call := 1; call <= 22; call++ {
		switch next(8) {
		case 0:
		case 1:
			l = append(l, api.Policy{Call: call, Masks: []api.Mask{{Word: 1 + next(5), Bits: 1 << next(5)}}})
		default:
			l = append(l, api.Policy{Call: call})
		}
	}
	return l
}

func inUse(k api.Kernel) (objects, opens int) {
	for _, o := range k.Objects {
		if o.Kind != 0 {
			objects++
		}
	}
	for _, o := range k.Opens {
		if o.Obj >= 0 {
			opens++
		}
	}
	return objects, opens
}

// holdModel holds what the model says against Do, call by call, as many as are
// asked for; it counts which answers came of which calls.
func holdModel(t *testing.T, next func(int) int, many int, counts map[string]int) {
	t.Helper()
	l := anyPolicies(next)
	prog, fault := gate.Compile(l)
	wantSame(t, "the fault of policies", fault, api.Fault{})
	k, w := procs.Boot(), newWorld(l)
	for range many {
		c := anyCall(next, k)
		got, a := Do(prog, k, c)
		counts[fmt.Sprint(c.Kind, ": ", int(a.Err))]++
		if want := w.do(c); told(a) != told(want) {
			t.Errorf("Do(%+v, %+v, %+v) answers %+v, not %+v", prog, k, c, a, want)
		}
		if a.Err != api.OK {
			wantSame(t, "the kernel behind a refused call", got, k)
		} else {
			wantSame(t, "the kernel, swept,", sweep.Sweep(got), got)
		}
		s := w.see()
		objects, opens := inUse(got)
		wantSame(t, "how many objects and open files there are", []int{objects, opens}, []int{len(s.things), len(s.files)})
		if t.Failed() {
			return
		}
		k = got
	}
}

func TestByModel(t *testing.T) {
	next := numbers(20261119)
	counts := map[string]int{}
	for range 400 {
		holdModel(t, next, 150+next(150), counts)
		if t.Failed() {
			return
		}
	}
	for _, did := range strings.Split("1: 0,2: 0,2: 2,2: 3,2: 4,2: 6,2: 7,2: 9,2: 11,2: 12,2: 13,2: 15,3: 0,3: 2,3: 3,3: 6,3: 10,3: 11,3: 12,3: 14,3: 15,4: 0,4: 3,4: 6,4: 9,4: 10,4: 12,5: 0,5: 10,5: 12,5: 15,6: 0,6: 3,6: 10,7: 0,7: 6,8: 0,8: 6,8: 15,9: 0,9: 3,9: 10,10: 0,10: 10,11: 0,11: 10,11: 11,12: 0,12: 7,12: 8,12: 10,12: 14,13: 0,13: 2,13: 7,13: 10,14: 0,14: 6,14: 8,14: 18,15: 0,15: 15,16: 0,16: 4,16: 6,16: 8,16: 15,16: 17,17: 0,17: 8,17: 15,17: 16,17: 17,18: 0,18: 15,19: 0,19: 3,20: 0,20: 6,20: 8,20: 10,21: 0,21: 8,21: 16,22: 0,22: 9", ",") {
		if counts[did] < 3 {
			t.Errorf("answers of call %s came %d times: these tell little", did, counts[did])
		}
	}
}
