package gate

import (
	"math"
	"reflect"
	"slices"
	"testing"

	"ringfence/api"
	"ringfence/bpf"
)

type record = [api.Words]int

func policy(call int, masks ...api.Mask) api.Policy {
	return api.Policy{Call: call, Masks: masks}
}

func mask(word, bits int) api.Mask { return api.Mask{Word: word, Bits: bits} }

// many policies of calls from 0 on, each with all the masks that it may have.
func many(n int) []api.Policy {
	var l []api.Policy
	for call := range n {
		l = append(l, policy(call, mask(1, 1), mask(3, 2), mask(5, 1<<30)))
	}
	return l
}

var farNumbers = []int{math.MinInt, math.MinInt + 1, -1 << 32, -1 << 31, -256, -2, -1, 1 << 31, 1<<31 + 1, 1 << 32, 1<<32 + 1, math.MaxInt - 1, math.MaxInt}

func wantFault(t *testing.T, l []api.Policy, err api.Errno, at int) {
	t.Helper()
	want := api.Fault{Err: err, At: at}
	if got := Wrong(l); got != want {
		t.Errorf("Wrong(%v) is %v, not %v", l, got, want)
	}
	p, got := Compile(l)
	if got != want {
		t.Errorf("Compile(%v) tells %v, not %v", l, got, want)
	}
	if err == api.OK {
		if f := bpf.Check(p); f != (api.Fault{}) {
			t.Errorf("Compile(%v) is %v, of which Check tells %v", l, p, f)
		}
		return
	}
	if len(p) != 0 {
		t.Errorf("Compile(%v) answers %v beside a fault", l, p)
	}
	for _, q := range l {
		if Allows(l, record{q.Call}) {
			t.Errorf("Allows(%v, call %d) though Wrong tells %v", l, q.Call, want)
		}
	}
}

func TestWrongHowMany(t *testing.T) {
	wantFault(t, nil, api.OK, 0)
	wantFault(t, []api.Policy{}, api.OK, 0)
	wantFault(t, many(1), api.OK, 0)
	wantFault(t, many(api.MaxPolicies), api.OK, 0)
	wantFault(t, many(api.MaxPolicies+1), api.ErrMany, 0)
	wantFault(t, many(5*api.MaxPolicies), api.ErrMany, 0)
	// That there are too many is told ahead of what is wrong with one of them.
	wantFault(t, append(many(api.MaxPolicies), policy(-1)), api.ErrMany, 0)
	wantFault(t, append([]api.Policy{policy(-1)}, many(api.MaxPolicies)...), api.ErrMany, 0)
}

func TestWrongCall(t *testing.T) {
	for _, call := range []int{0, 1, 22, 23, 1 << 16, 1 << 30, api.MaxWord - 1} {
		wantFault(t, []api.Policy{policy(call)}, api.OK, 0)
		wantFault(t, []api.Policy{policy(9), policy(call, mask(1, 1))}, api.OK, 0)
	}
	for _, call := range farNumbers {
		wantFault(t, []api.Policy{policy(call)}, api.ErrRange, 0)
		wantFault(t, []api.Policy{policy(9), policy(call)}, api.ErrRange, 1)
	}
}

func TestWrongName(t *testing.T) {
	wantFault(t, []api.Policy{policy(3), policy(3)}, api.ErrName, 1)
	wantFault(t, []api.Policy{policy(0), policy(0)}, api.ErrName, 1)
	wantFault(t, []api.Policy{policy(3), policy(4), policy(5), policy(3)}, api.ErrName, 3)
	wantFault(t, []api.Policy{policy(3), policy(4), policy(4), policy(3)}, api.ErrName, 2)
	wantFault(t, []api.Policy{policy(3, mask(1, 1)), policy(3, mask(2, 2))}, api.ErrName, 1)
	last := many(api.MaxPolicies)
	last[api.MaxPolicies-1].Call = 0
	wantFault(t, last, api.ErrName, api.MaxPolicies-1)
}

func TestWrongHowManyMasks(t *testing.T) {
	for n := range 8 {
		err := api.OK
		if n > api.MaxMasks {
			err = api.ErrMany
		}
		l := slices.Repeat([]api.Mask{mask(1, 1)}, n)
		wantFault(t, []api.Policy{policy(3, l...)}, err, 0)
		at := 0
		if err != api.OK {
			at = 1
		}
		wantFault(t, []api.Policy{policy(9), policy(3, l...), policy(4)}, err, at)
	}
	wantFault(t, []api.Policy{{Call: 3, Masks: []api.Mask{}}}, api.OK, 0)
}

func TestWrongMask(t *testing.T) {
	inPlaces := func(m api.Mask, err api.Errno) {
		t.Helper()
		good := mask(2, 2)
		for _, l := range [][]api.Mask{{m}, {good, m}, {m, good}, {good, good, m}} {
			wantFault(t, []api.Policy{policy(3, l...)}, err, 0)
			at := 0
			if err != api.OK {
				at = 1
			}
			wantFault(t, []api.Policy{policy(9), policy(3, l...)}, err, at)
		}
	}
	for word := 1; word < api.Words; word++ {
		for _, bits := range []int{1, 2, 3, 1 << 30, api.MaxWord - 1} {
			inPlaces(mask(word, bits), api.OK)
		}
	}
	for _, word := range append([]int{0, api.Words, api.Words + 1, 257}, farNumbers...) {
		inPlaces(mask(word, 1), api.ErrRange)
	}
	for _, bits := range append([]int{0}, farNumbers...) {
		inPlaces(mask(1, bits), api.ErrRange)
		inPlaces(mask(0, bits), api.ErrRange)
	}
}

func TestWrongTellsTheFirst(t *testing.T) {
	four := []api.Mask{mask(0, 0), mask(1, 1), mask(1, 1), mask(1, 1)}
	wantFault(t, []api.Policy{policy(-1, four...)}, api.ErrRange, 0)
	wantFault(t, []api.Policy{policy(3), policy(3, four...)}, api.ErrName, 1)
	wantFault(t, []api.Policy{policy(3), policy(3, mask(0, 0))}, api.ErrName, 1)
	wantFault(t, []api.Policy{policy(3), policy(4, four...)}, api.ErrMany, 1)
	wantFault(t, []api.Policy{policy(3, mask(0, 0)), policy(-1), policy(4, four...)}, api.ErrRange, 0)
	wantFault(t, []api.Policy{policy(3, four...), policy(-1), policy(3)}, api.ErrMany, 0)
	wantFault(t, []api.Policy{policy(3), policy(-1), policy(-1)}, api.ErrRange, 1)
}

func wantAllows(t *testing.T, l []api.Policy, r record, want bool) {
	t.Helper()
	if got := Allows(l, r); got != want {
		t.Errorf("Allows(%v, %v) is %v", l, r, got)
	}
	p, f := Compile(l)
	if f != (api.Fault{}) {
		t.Fatalf("Compile(%v) tells %v", l, f)
	}
	n, steps := bpf.Run(p, r)
	if steps == 0 || (n == api.Allow) != want {
		t.Errorf("of Compile(%v) = %v comes, in %d steps, %d of %v", l, p, steps, n, r)
	}
}

func TestExample(t *testing.T) {
	l := []api.Policy{policy(9), policy(4, mask(1, 2))}
	wantAllows(t, l, record{9}, true)
	wantAllows(t, l, record{9, -1, -1, -1, -1, -1}, true)
	wantAllows(t, l, record{4}, true)
	wantAllows(t, l, record{4, 1, 2, 2, 2, 2}, true)
	wantAllows(t, l, record{4, 2}, false)
	wantAllows(t, l, record{4, 3}, false)
	for _, call := range append([]int{0, 1, 2, 3, 5, 8, 10}, farNumbers...) {
		wantAllows(t, l, record{call}, false)
		wantAllows(t, l, record{call, 9, 4, 9, 4, 9}, false)
	}
}

func TestNoPolicies(t *testing.T) {
	for _, call := range append([]int{0, 1, 2}, farNumbers...) {
		wantAllows(t, nil, record{call}, false)
		wantAllows(t, []api.Policy{}, record{call, 1, 1, 1, 1, 1}, false)
	}
}

func TestCallsAtTheEdge(t *testing.T) {
	const top = api.MaxWord - 1
	l := []api.Policy{policy(top), policy(0)}
	wantAllows(t, l, record{top}, true)
	wantAllows(t, l, record{0}, true)
	for _, call := range append([]int{1, top - 1}, farNumbers...) {
		wantAllows(t, l, record{call}, false)
	}
}

func TestEachMaskByItself(t *testing.T) {
	for word := 1; word < api.Words; word++ {
		for bit := range 31 {
			l := []api.Policy{policy(7, mask(word, 1<<bit))}
			r, others := record{7}, record{7, -1, -1, -1, -1, -1}
			wantAllows(t, l, r, true)
			r[word] = 1 << bit
			wantAllows(t, l, r, false)
			r[word] = math.MaxInt
			wantAllows(t, l, r, false)
			r[word] = ^(1 << bit)
			wantAllows(t, l, r, true)
			others[word] = 0
			wantAllows(t, l, others, true)
		}
	}
	// Words have bits that no mask has.
	all := []api.Policy{policy(7, mask(1, api.MaxWord-1))}
	wantAllows(t, all, record{7, 1 << 31}, true)
	wantAllows(t, all, record{7, math.MinInt}, true)
	wantAllows(t, all, record{7, -1}, false)
}

func TestMasksTogether(t *testing.T) {
	two := []api.Policy{policy(7, mask(2, 1), mask(4, 6))}
	three := []api.Policy{policy(7, mask(2, 1), mask(4, 6), mask(2, 8))}
	for a := range 16 {
		for b := range 16 {
			r := record{7, 15, a, 15, b, 15}
			free := a&1 == 0 && b&6 == 0
			wantAllows(t, two, r, free)
			wantAllows(t, three, r, free && a&8 == 0)
		}
	}
}

func TestCallIsNotAWord(t *testing.T) {
	// A policy behind others is held against the call, whatever they loaded.
	l := []api.Policy{policy(7, mask(1, 4)), policy(5, mask(2, 8)), policy(3)}
	wantAllows(t, l, record{7, 3, 5}, true)
	wantAllows(t, l, record{7, 4, 5}, false)
	wantAllows(t, l, record{7, 5, 3}, false)
	wantAllows(t, l, record{5, 7, 8}, false)
	wantAllows(t, l, record{5, 4, 7}, true)
	wantAllows(t, l, record{3, 4, 8}, true)
	wantAllows(t, l, record{4, 3, 3, 3, 3, 3}, false)
}

func TestTheLongest(t *testing.T) {
	l := many(api.MaxPolicies)
	for call := -2; call < api.MaxPolicies+2; call++ {
		known := 0 <= call && call < api.MaxPolicies
		wantAllows(t, l, record{call}, known)
		wantAllows(t, l, record{call, 2, 3, 4, 5, 6}, known)
		wantAllows(t, l, record{call, 1}, false)
		wantAllows(t, l, record{call, 0, 0, 2}, false)
		wantAllows(t, l, record{call, 0, 0, 0, 0, 1 << 30}, false)
	}
}

// numbers are the same ones each time, so that a failure can be looked at again.
func numbers() func(below int) int {
	state := uint64(20261118)
	return func(below int) int {
		state = state*6364136223846793005 + 1442695040888963407
		return int((state >> 33) % uint64(below))
	}
}

func somePolicies(next func(int) int) []api.Policy {
	var l []api.Policy
	for call := range 2 + next(api.MaxPolicies+5) {
		if len(l) == api.MaxPolicies || next(4) == 0 {
			continue
		}
		p := policy(call)
		for range next(api.MaxMasks + 1) {
			p.Masks = append(p.Masks, mask(1+next(api.Words-1), 1+next(15)))
		}
		l = append(l, p)
	}
	return l
}

func mixed(l []api.Policy, next func(int) int) []api.Policy {
	out := slices.Clone(l)
	for at := range out {
		to := at + next(len(out)-at)
		out[at], out[to] = out[to], out[at]
	}
	return out
}

// allowed asks bit by bit, by another way than the program's.
func allowed(l []api.Policy, r record) bool {
	for _, p := range l {
		if p.Call != r[0] {
			continue
		}
		for _, m := range p.Masks {
			for word, left := r[m.Word], m.Bits; left > 0; word, left = word>>1, left/2 {
				if word&1 == 1 && left%2 == 1 {
					return false
				}
			}
		}
		return true
	}
	return false
}

func TestAnything(t *testing.T) {
	next := numbers()
	passed := 0
	for range 1500 {
		l := mixed(somePolicies(next), next)
		other := mixed(l, next)
		for range 20 {
			r := record{next(35) - 1}
			for word := 1; word < api.Words; word++ {
				r[word] = next(16) & next(16)
			}
			want := allowed(l, r)
			if want {
				passed++
			}
			wantAllows(t, l, r, want)
			wantAllows(t, other, r, want)
		}
		if t.Failed() {
			return
		}
	}
	if passed < 1000 {
		t.Errorf("only %d records passed: these tell little", passed)
	}
}

// deep copies policies with their spare room.
func deep(l []api.Policy) []api.Policy {
	out := slices.Clone(l[:cap(l)])
	for at, p := range out {
		out[at].Masks = slices.Clone(p.Masks[:cap(p.Masks)])[:len(p.Masks)]
	}
	return out
}

func TestHandedInIsOnlyRead(t *testing.T) {
	masks := []api.Mask{mask(1, 1), mask(2, 2), mask(0, -1), mask(9, 9)}
	room := []api.Policy{policy(4, masks[:2]...), policy(5, masks[1:2]...), policy(-1, masks...), policy(4)}
	l := room[:2]
	before := deep(l)
	if f := Wrong(l); f != (api.Fault{}) {
		t.Errorf("Wrong looks behind a list: %v", f)
	}
	if !Allows(l, record{4}) || Allows(l, record{4, 1}) {
		t.Error("Allows looks behind a list")
	}
	p, _ := Compile(l)
	if !reflect.DeepEqual(before, deep(l)) || masks[2] != mask(0, -1) || masks[3] != mask(9, 9) {
		t.Errorf("what was handed in is %v", room)
	}
	kept := slices.Clone(p)
	room[0], room[1], masks[0], masks[1] = policy(8), policy(9), mask(3, 3), mask(4, 4)
	if !slices.Equal(kept, p) {
		t.Error("a program goes on with what was handed in")
	}
}

func TestAnswersAreNew(t *testing.T) {
	l := many(3)
	first, _ := Compile(l)
	kept := slices.Clone(first)
	for at := range first[:cap(first)] {
		first[:cap(first)][at] = api.Instr{Op: -1}
	}
	if second, f := Compile(l); f != (api.Fault{}) || !slices.Equal(kept, second) {
		t.Errorf("a second program of the same policies is %v, %v", second, f)
	}
}
