package bpf

import (
	"math"
	"slices"
	"testing"

	"ringfence/api"
)

var (
	allow = api.Instr{Op: api.OpBack, K: api.Allow}
	deny  = api.Instr{Op: api.OpBack, K: api.Deny}
)

func load(k int) api.Instr { return api.Instr{Op: api.OpLoad, K: k} }

func skip(k int) api.Instr { return api.Instr{Op: api.OpSkip, K: k} }

func jump(op, k, jt, jf int) api.Instr { return api.Instr{Op: op, Jt: jt, Jf: jf, K: k} }

// ahead lays instructions ahead of so many denials.
func ahead(denials int, l ...api.Instr) []api.Instr {
	for range denials {
		l = append(l, deny)
	}
	return l
}

var jumpOps = []int{api.OpJump, api.OpMore, api.OpMask}

var farNumbers = []int{math.MinInt, math.MinInt + 1, -1 << 32, -1 << 31, -256, -2, -1, 1 << 31, 1<<31 + 1, 1 << 32, 1<<32 + 1, math.MaxInt - 1, math.MaxInt}

func wantFault(t *testing.T, p []api.Instr, err api.Errno, at int) {
	t.Helper()
	want := api.Fault{Err: err, At: at}
	if got := Check(p); got != want {
		t.Errorf("Check(%v) is %v, not %v", p, got, want)
	}
	b, got := Bytes(p)
	if got != want {
		t.Errorf("Bytes(%v) tells %v, not %v", p, got, want)
	}
	if err == api.OK {
		return
	}
	if len(b) != 0 {
		t.Errorf("Bytes(%v) answers %v beside a fault", p, b)
	}
	for _, r := range [][api.Words]int{{}, {1, 1, 1, 1, 1, 1}, {-1, -1, -1, -1, -1, -1}} {
		if n, steps := Run(p, r); n != api.Deny || steps != 0 {
			t.Errorf("Run(%v, %v) is %d, %d though Check tells %v", p, r, n, steps, want)
		}
	}
}

func TestCheckHowMany(t *testing.T) {
	wantFault(t, nil, api.ErrMany, 0)
	wantFault(t, []api.Instr{}, api.ErrMany, 0)
	wantFault(t, ahead(1), api.OK, 0)
	wantFault(t, ahead(api.MaxProgram), api.OK, 0)
	wantFault(t, ahead(api.MaxProgram+1), api.ErrMany, 0)
	wantFault(t, ahead(5*api.MaxProgram), api.ErrMany, 0)
	wantFault(t, make([]api.Instr, api.MaxProgram+1), api.ErrMany, 0)
}

func TestCheckOps(t *testing.T) {
	for _, op := range append([]int{0, 7, 8, 255, 257, 262}, farNumbers...) {
		wantFault(t, []api.Instr{{Op: op}, allow}, api.ErrKind, 0)
		wantFault(t, []api.Instr{allow, {Op: op}}, api.ErrKind, 1)
		wantFault(t, []api.Instr{{Op: op, Jt: -1, Jf: 99, K: -1}, allow}, api.ErrKind, 0)
	}
}

func TestCheckLoad(t *testing.T) {
	for k := range api.Words {
		wantFault(t, []api.Instr{load(k), allow}, api.OK, 0)
	}
	for _, k := range append([]int{api.Words, api.Words + 1, 256, 1 << 30}, farNumbers...) {
		wantFault(t, []api.Instr{load(k), allow}, api.ErrRange, 0)
		wantFault(t, []api.Instr{load(0), load(k), allow}, api.ErrRange, 1)
	}
}

func TestCheckBack(t *testing.T) {
	wantFault(t, []api.Instr{allow}, api.OK, 0)
	wantFault(t, []api.Instr{deny}, api.OK, 0)
	for _, k := range append([]int{2, 3, 256, 257}, farNumbers...) {
		wantFault(t, []api.Instr{{Op: api.OpBack, K: k}}, api.ErrRange, 0)
		wantFault(t, []api.Instr{deny, {Op: api.OpBack, K: k}}, api.ErrRange, 1)
	}
}

func TestCheckSkip(t *testing.T) {
	for _, behind := range []int{1, 2, 3, 40, 41, 42, 100, api.MaxProgram - 1} {
		wantFault(t, ahead(behind, skip(0)), api.OK, 0)
		wantFault(t, ahead(behind, skip(behind-1)), api.OK, 0)
		wantFault(t, ahead(behind, skip(behind)), api.ErrRange, 0)
		wantFault(t, ahead(behind, skip(behind+1)), api.ErrRange, 0)
	}
	for _, k := range farNumbers {
		wantFault(t, ahead(3, skip(k)), api.ErrRange, 0)
	}
	wantFault(t, []api.Instr{skip(0)}, api.ErrRange, 0)
	wantFault(t, []api.Instr{allow, skip(0)}, api.ErrRange, 1)
	wantFault(t, ahead(2, deny, skip(1)), api.OK, 0)
	wantFault(t, ahead(2, deny, skip(2)), api.ErrRange, 1)
}

func TestCheckJumpNumber(t *testing.T) {
	for _, op := range jumpOps {
		for _, k := range []int{0, 1, 255, 256, 1 << 16, 1 << 30, api.MaxWord - 1} {
			wantFault(t, ahead(2, jump(op, k, 0, 1)), api.OK, 0)
		}
		for _, k := range farNumbers {
			wantFault(t, ahead(2, jump(op, k, 0, 1)), api.ErrRange, 0)
			wantFault(t, ahead(2, load(0), jump(op, k, 0, 1)), api.ErrRange, 1)
		}
	}
}

func TestCheckJumpSteps(t *testing.T) {
	for _, op := range jumpOps {
		for _, behind := range []int{0, 1, 2, 3, 39, 40, 41, 42, 43, 300, api.MaxProgram - 1} {
			for _, n := range append([]int{0, 1, 2, 3, 38, 39, 40, 41, 42, 299, 300, 398, 399}, farNumbers...) {
				err := api.ErrRange
				if 0 <= n && n <= api.MaxJump && n < behind {
					err = api.OK
				}
				wantFault(t, ahead(behind, jump(op, 1, n, n)), err, 0)
				if behind > 0 {
					wantFault(t, ahead(behind, jump(op, 1, n, 0)), err, 0)
					wantFault(t, ahead(behind, jump(op, 1, 0, n)), err, 0)
				}
			}
		}
	}
}

func TestCheckFieldsOfOthers(t *testing.T) {
	for _, in := range []api.Instr{load(0), load(5), skip(0), skip(1), allow, deny} {
		for _, n := range append([]int{1, 2, 40, 41, 256}, farNumbers...) {
			withJt, withJf, both := in, in, in
			withJt.Jt, withJf.Jf = n, n
			both.Jt, both.Jf = n, -n
			for _, bad := range []api.Instr{withJt, withJf, both} {
				wantFault(t, ahead(2, bad), api.ErrForm, 0)
				wantFault(t, ahead(2, load(1), bad), api.ErrForm, 1)
			}
		}
	}
	for _, bad := range []api.Instr{
		{Op: api.OpLoad, Jt: 1, K: api.Words},
		{Op: api.OpSkip, Jf: 1, K: 2},
		{Op: api.OpBack, Jt: -1, K: 2},
	} {
		wantFault(t, ahead(2, bad), api.ErrRange, 0)
	}
}

func TestCheckLast(t *testing.T) {
	wantFault(t, []api.Instr{load(0)}, api.ErrForm, 0)
	wantFault(t, []api.Instr{allow, load(0)}, api.ErrForm, 1)
	wantFault(t, []api.Instr{allow, deny, allow, load(5)}, api.ErrForm, 3)
	// What leads on from the last one leads behind it, and that is told first.
	for _, op := range jumpOps {
		wantFault(t, []api.Instr{allow, jump(op, 0, 0, 0)}, api.ErrRange, 1)
	}
	wantFault(t, append(ahead(api.MaxProgram-1), load(0)), api.ErrForm, api.MaxProgram-1)
}

func TestCheckTellsTheFirst(t *testing.T) {
	wantFault(t, []api.Instr{load(0), {Op: api.OpLoad, Jt: 1}, load(6), {Op: 9}, load(0)}, api.ErrForm, 1)
	wantFault(t, []api.Instr{load(0), load(6), {Op: 9}, {Op: api.OpLoad, Jt: 1}}, api.ErrRange, 1)
	wantFault(t, []api.Instr{load(0), load(0), {Op: 9}, load(6)}, api.ErrKind, 2)
	wantFault(t, []api.Instr{load(6), load(0)}, api.ErrRange, 0)
}

func wantRun(t *testing.T, p []api.Instr, r [api.Words]int, n, steps int) {
	t.Helper()
	if gotN, gotSteps := Run(p, r); gotN != n || gotSteps != steps {
		t.Errorf("Run(%v, %v) is %d, %d, not %d, %d", p, r, gotN, gotSteps, n, steps)
	}
}

func TestRunExample(t *testing.T) {
	p := []api.Instr{load(2), jump(api.OpJump, 7, 0, 1), allow, deny}
	wantRun(t, p, [api.Words]int{2: 7}, api.Allow, 3)
	wantRun(t, p, [api.Words]int{2: 8}, api.Deny, 3)
	wantRun(t, p, [api.Words]int{7, 7, 0, 7, 7, 7}, api.Deny, 3)
}

func TestRunLoadsEachWord(t *testing.T) {
	for k := range api.Words {
		p := []api.Instr{load((k + 1) % api.Words), load(k), jump(api.OpJump, 9, 0, 1), allow, deny}
		var r [api.Words]int
		r[k] = 9
		wantRun(t, p, r, api.Allow, 4)
		r[k] = 0
		r[(k+1)%api.Words] = 9
		wantRun(t, p, r, api.Deny, 4)
	}
}

func TestRunBeginsWithNought(t *testing.T) {
	full := [api.Words]int{5, 5, 5, 5, 5, 5}
	wantRun(t, []api.Instr{jump(api.OpJump, 0, 0, 1), allow, deny}, full, api.Allow, 2)
	wantRun(t, []api.Instr{jump(api.OpMore, 1, 0, 1), allow, deny}, full, api.Deny, 2)
	wantRun(t, []api.Instr{jump(api.OpMask, 5, 0, 1), allow, deny}, full, api.Deny, 2)
}

func TestRunJumps(t *testing.T) {
	const top = api.MaxWord - 1
	for _, c := range []struct {
		op, word, k int
		holds       bool
	}{
		{api.OpJump, 0, 0, true}, {api.OpJump, 1, 0, false}, {api.OpJump, 6, 7, false}, {api.OpJump, 7, 7, true}, {api.OpJump, 8, 7, false},
		{api.OpJump, top, top, true}, {api.OpJump, -1, top, false}, {api.OpJump, 1 << 32, 0, false}, {api.OpJump, 1<<32 + 7, 7, false}, {api.OpJump, math.MinInt, 0, false},
		{api.OpMore, 0, 0, true}, {api.OpMore, 6, 7, false}, {api.OpMore, 7, 7, true}, {api.OpMore, 8, 7, true},
		{api.OpMore, -1, 0, false}, {api.OpMore, math.MinInt, 0, false}, {api.OpMore, math.MaxInt, top, true}, {api.OpMore, 1 << 32, top, true}, {api.OpMore, top - 1, top, false},
		{api.OpMask, 0, 0, false}, {api.OpMask, -1, 0, false}, {api.OpMask, 5, 2, false}, {api.OpMask, 5, 4, true}, {api.OpMask, 5, 6, true}, {api.OpMask, 6, 5, true},
		{api.OpMask, -1, 1, true}, {api.OpMask, -2, 1, false}, {api.OpMask, math.MinInt, top, false}, {api.OpMask, 1 << 31, top, false}, {api.OpMask, 1 << 30, top, true}, {api.OpMask, math.MaxInt, 1 << 30, true},
	} {
		n := api.Deny
		if c.holds {
			n = api.Allow
		}
		r := [api.Words]int{3: c.word}
		wantRun(t, []api.Instr{load(3), jump(c.op, c.k, 0, 1), allow, deny}, r, n, 3)
		wantRun(t, []api.Instr{load(3), jump(c.op, c.k, 1, 0), deny, allow}, r, n, 3)
		// Both ways the same: nothing hangs on the word.
		wantRun(t, []api.Instr{load(3), jump(c.op, c.k, 1, 1), deny, allow}, r, api.Allow, 3)
		wantRun(t, []api.Instr{load(3), jump(c.op, c.k, 0, 0), allow, deny}, r, api.Allow, 3)
	}
}

func TestRunLeavesOutSoMany(t *testing.T) {
	for behind := 1; behind < 60; behind++ {
		for n := range behind {
			for _, first := range []api.Instr{skip(n), jump(api.OpJump, 0, n, 0), jump(api.OpJump, 1, 0, n)} {
				if first.Op != api.OpSkip && n > api.MaxJump {
					continue
				}
				p := ahead(behind, first)
				p[1+n] = allow
				wantRun(t, p, [api.Words]int{}, api.Allow, 2)
			}
		}
	}
	p := ahead(api.MaxProgram-1, skip(api.MaxProgram-2))
	p[api.MaxProgram-1] = allow
	wantRun(t, p, [api.Words]int{}, api.Allow, 2)
}

func TestRunCountsSteps(t *testing.T) {
	for _, many := range []int{1, 2, 3, 50, api.MaxProgram} {
		var p []api.Instr
		for at := range many - 1 {
			p = append(p, []api.Instr{load(at % api.Words), skip(0), jump(api.OpMore, 1, 0, 0)}[at%3])
		}
		wantRun(t, append(p, allow), [api.Words]int{0, 1, 2}, api.Allow, many)
	}
	wantRun(t, []api.Instr{allow, deny, deny}, [api.Words]int{}, api.Allow, 1)
}

func TestBytes(t *testing.T) {
	for _, c := range []struct {
		p []api.Instr
		b []byte
	}{
		{[]api.Instr{allow}, []byte{6, 0, 0, 1, 0, 0, 0}},
		{[]api.Instr{deny}, []byte{6, 0, 0, 0, 0, 0, 0}},
		{[]api.Instr{load(2), jump(api.OpJump, 7, 0, 1), allow, deny}, []byte{1, 0, 0, 2, 0, 0, 0, 2, 0, 1, 7, 0, 0, 0, 6, 0, 0, 1, 0, 0, 0, 6, 0, 0, 0, 0, 0, 0}},
		{[]api.Instr{jump(api.OpMore, 0x01020304, 1, 0), allow, deny}, []byte{3, 1, 0, 4, 3, 2, 1, 6, 0, 0, 1, 0, 0, 0, 6, 0, 0, 0, 0, 0, 0}},
		{[]api.Instr{jump(api.OpMask, api.MaxWord-1, 0, 0), allow}, []byte{4, 0, 0, 255, 255, 255, 127, 6, 0, 0, 1, 0, 0, 0}},
		{[]api.Instr{jump(api.OpJump, 0x7f00ff80, 0, 0), skip(0), deny}, []byte{2, 0, 0, 128, 255, 0, 127, 5, 0, 0, 0, 0, 0, 0, 6, 0, 0, 0, 0, 0, 0}},
	} {
		if b, f := Bytes(c.p); f != (api.Fault{}) || !slices.Equal(b, c.b) {
			t.Errorf("Bytes(%v) is %v, %v, not %v", c.p, b, f, c.b)
		}
		if p, f := Parse(c.b); f != (api.Fault{}) || !slices.Equal(p, c.p) {
			t.Errorf("Parse(%v) is %v, %v, not %v", c.b, p, f, c.p)
		}
	}
	b, f := Bytes(ahead(359, jump(api.OpJump, 256, 40, 39), skip(300)))
	if f.Err != api.OK || len(b) != 361*7 || !slices.Equal(b[:14], []byte{2, 40, 39, 0, 1, 0, 0, 5, 0, 0, 44, 1, 0, 0}) {
		t.Errorf("the bytes of a long program begin with %v, %v", b[:min(14, len(b))], f)
	}
}

func wantParseFault(t *testing.T, b []byte, err api.Errno, at int) {
	t.Helper()
	p, f := Parse(b)
	if f != (api.Fault{Err: err, At: at}) || len(p) != 0 {
		t.Errorf("Parse(%v) is %v, %v, not the fault %d at %d", b, p, f, err, at)
	}
}

func TestParseFaults(t *testing.T) {
	one := []byte{6, 0, 0, 1, 0, 0, 0}
	for n := 1; n < 30; n++ {
		if n%7 != 0 {
			wantParseFault(t, slices.Repeat(one, 5)[:n], api.ErrForm, 0)
		}
	}
	wantParseFault(t, nil, api.ErrMany, 0)
	wantParseFault(t, []byte{}, api.ErrMany, 0)
	wantParseFault(t, slices.Repeat(one, api.MaxProgram+1), api.ErrForm, 0)
	wantParseFault(t, slices.Repeat(one, 3*api.MaxProgram), api.ErrForm, 0)
	wantParseFault(t, slices.Repeat(one, api.MaxProgram)[:api.MaxProgram*7-1], api.ErrForm, 0)
	wantParseFault(t, append(slices.Repeat(one, api.MaxProgram), 6), api.ErrForm, 0)
	if p, f := Parse(slices.Repeat(one, api.MaxProgram)); f != (api.Fault{}) || len(p) != api.MaxProgram || p[api.MaxProgram-1] != allow {
		t.Errorf("the longest program is %v, %v", p, f)
	}
	for _, c := range []struct {
		bytes []byte
		err   api.Errno
	}{
		{[]byte{0, 0, 0, 0, 0, 0, 0}, api.ErrKind},
		{[]byte{7, 0, 0, 0, 0, 0, 0}, api.ErrKind},
		{[]byte{255, 0, 0, 0, 0, 0, 0}, api.ErrKind},
		{[]byte{6, 0, 0, 2, 0, 0, 0}, api.ErrRange},
		{[]byte{6, 0, 0, 1, 1, 0, 0}, api.ErrRange},
		{[]byte{6, 0, 0, 1, 0, 1, 0}, api.ErrRange},
		{[]byte{6, 0, 0, 1, 0, 0, 1}, api.ErrRange},
		{[]byte{1, 0, 0, 6, 0, 0, 0}, api.ErrRange},
		{[]byte{1, 0, 0, 255, 255, 255, 255}, api.ErrRange},
		{[]byte{2, 0, 0, 0, 0, 0, 128}, api.ErrRange},
		{[]byte{3, 0, 0, 255, 255, 255, 255}, api.ErrRange},
		{[]byte{4, 2, 0, 0, 0, 0, 0}, api.ErrRange},
		{[]byte{4, 0, 255, 0, 0, 0, 0}, api.ErrRange},
		{[]byte{5, 0, 0, 255, 255, 255, 255}, api.ErrRange},
		{[]byte{5, 1, 0, 0, 0, 0, 0}, api.ErrForm},
		{[]byte{1, 0, 128, 0, 0, 0, 0}, api.ErrForm},
		{[]byte{6, 255, 0, 1, 0, 0, 0}, api.ErrForm},
	} {
		wantParseFault(t, slices.Concat(c.bytes, one, one), c.err, 0)
		wantParseFault(t, slices.Concat(one, c.bytes, one, one), c.err, 1)
	}
	wantParseFault(t, slices.Concat(one, []byte{1, 0, 0, 0, 0, 0, 0}), api.ErrForm, 1)
}

// numbers are the same ones each time, so that a failure can be looked at again.
func numbers() func(below int) int {
	state := uint64(20261118)
	return func(below int) int {
		state = state*6364136223846793005 + 1442695040888963407
		return int((state >> 33) % uint64(below))
	}
}

func someProgram(next func(int) int) []api.Instr {
	many := 1 + next(45)
	var p []api.Instr
	for at := range many - 1 {
		reach := min(many-1-at, api.MaxJump+1)
		switch op := 1 + next(6); op {
		case api.OpLoad:
			p = append(p, load(next(api.Words)))
		case api.OpSkip:
			p = append(p, skip(next(min(many-1-at, 4))))
		case api.OpBack:
			p = append(p, jump(api.OpMask, 1+next(7), next(reach), next(reach)))
		default:
			p = append(p, jump(op, next(8), next(reach), next(reach)))
		}
	}
	return append(p, api.Instr{Op: api.OpBack, K: next(2)})
}

// backward works a program out from its last instruction to its first one: what
// comes, in how many steps, for each value that the accumulator may have there.
func backward(p []api.Instr, r [api.Words]int) (n, steps int) {
	type end struct{ n, steps int }
	values := append([]int{0}, r[:]...)
	ends := make([][]end, len(p))
	for at := len(p) - 1; at >= 0; at-- {
		in := p[at]
		for v, acc := range values {
			to := at + 1
			switch {
			case in.Op == api.OpBack:
				ends[at] = append(ends[at], end{in.K, 1})
				continue
			case in.Op == api.OpLoad:
				v = 1 + in.K
			case in.Op == api.OpSkip:
				to += in.K
			case in.Op == api.OpJump && acc == in.K, in.Op == api.OpMore && acc >= in.K, in.Op == api.OpMask && acc&in.K > 0:
				to += in.Jt
			default:
				to += in.Jf
			}
			ends[at] = append(ends[at], end{ends[to][v].n, ends[to][v].steps + 1})
		}
	}
	return ends[0][0].n, ends[0][0].steps
}

func TestSomePrograms(t *testing.T) {
	next := numbers()
	for range 5000 {
		p := someProgram(next)
		if f := Check(p); f != (api.Fault{}) {
			t.Fatalf("Check(%v) is %v", p, f)
		}
		for range 8 {
			var r [api.Words]int
			for i := range r {
				r[i] = next(12) - 2
			}
			n, steps := backward(p, r)
			wantRun(t, p, r, n, steps)
		}
		b, f := Bytes(p)
		if f != (api.Fault{}) || len(b) != 7*len(p) {
			t.Fatalf("Bytes(%v) is %v, %v", p, b, f)
		}
		if q, f := Parse(b); f != (api.Fault{}) || !slices.Equal(q, p) {
			t.Fatalf("Parse(%v) is %v, %v, not %v", b, q, f, p)
		}
	}
}

// TestAnything: whatever comes in, nothing panics, all ends, and the four calls agree.
func TestAnything(t *testing.T) {
	next := numbers()
	edges := append([]int{0, 1, 2, 3, 4, 5, 6, 7, 39, 40, 41, 400}, farNumbers...)
	for range 20000 {
		p := someProgram(next)
		for range 1 + next(3) {
			in := &p[next(len(p))]
			*[]*int{&in.Op, &in.Jt, &in.Jf, &in.K}[next(4)] = edges[next(len(edges))]
		}
		f := Check(p)
		n, steps := Run(p, [api.Words]int{edges[next(len(edges))], edges[next(len(edges))]})
		if f.Err != api.OK && (n != api.Deny || steps != 0) || f.Err == api.OK && (steps < 1 || steps > len(p)) {
			t.Fatalf("Run(%v) is %d, %d, and Check tells %v", p, n, steps, f)
		}
		if _, g := Bytes(p); f != g {
			t.Fatalf("Bytes(%v) tells %v, not %v", p, g, f)
		}
		b := make([]byte, next(60))
		for i := range b {
			b[i] = byte(next(9))
		}
		if q, f := Parse(b); f.Err == api.OK {
			if back, _ := Bytes(q); !slices.Equal(back, b) {
				t.Fatalf("Parse(%v) is %v, of which Bytes makes %v", b, q, back)
			}
		}
	}
}

func TestWhatIsHandedInStays(t *testing.T) {
	room := []api.Instr{load(2), jump(api.OpJump, 7, 0, 1), allow, deny, {Op: 9, Jt: 9, Jf: 9, K: 9}}
	before := slices.Clone(room)
	b, _ := Bytes(room[:4])
	Check(room[:4])
	Run(room[:4], [api.Words]int{})
	if !slices.Equal(room, before) {
		t.Errorf("a program that was handed in is %v now", room)
	}
	bytesRoom := append(slices.Clone(b), 77)
	p, _ := Parse(bytesRoom[:len(b)])
	if !slices.Equal(bytesRoom, append(slices.Clone(b), 77)) {
		t.Errorf("bytes that were handed in are %v now", bytesRoom)
	}
	clear(bytesRoom)
	if !slices.Equal(p, before[:4]) {
		t.Errorf("what Parse answered hangs on what it was handed: %v", p)
	}
	clear(room)
	if again, _ := Bytes(p); !slices.Equal(again, b) {
		t.Errorf("what Bytes answered hangs on what it was handed: %v", b)
	}
}
