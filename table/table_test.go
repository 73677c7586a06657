package table

import (
	"fmt"
	"math"
	"slices"
	"testing"

	"ringfence/api"
)

var farNumbers = []int{math.MinInt, math.MinInt + 1, -1 << 32, -2, -1, 1 << 16, 1 << 32, math.MaxInt - 1, math.MaxInt}

var noSets = []int{math.MinInt, -4096, -2, -1, api.Every + 1, 8191, 1 << 20, 1 << 32, math.MaxInt}

var someSets = []int{0, 1, 2, 3, 7, 14, 56, 896, 1365, 2048, 2049, 2730, 4094, api.Every}

func has(open, rights int) api.Slot {
	return api.Slot{Has: true, Cap: api.Cap{Open: open, Rights: rights}}
}

// left is a slot that has none, with something in it that means nothing.
func left() api.Slot { return api.Slot{Cap: api.Cap{Open: 5, Rights: 9}} }

// some is a table with slots that have none in it, clean and not.
func some() []api.Slot {
	return []api.Slot{has(4, 3), {}, has(0, api.Every), left(), has(59, 0), has(4, 2049)}
}

func full() []api.Slot {
	var l []api.Slot
	for i := range api.MaxSlots {
		l = append(l, has(i, 7<<i&api.Every))
	}
	return l
}

// told tells lists without entries alike, be they nil or empty.
func told(x any) string { return fmt.Sprintf("%+v", x) }

func wantSame(t *testing.T, what string, got, want any) {
	t.Helper()
	if told(got) != told(want) {
		t.Errorf("%s is %+v, not %+v", what, got, want)
	}
}

// with is the list with one slot changed, or one more behind it.
func with(l []api.Slot, at int, s api.Slot) []api.Slot {
	l = slices.Clone(l)
	if at == len(l) {
		return append(l, s)
	}
	l[at] = s
	return l
}

// within tells it by dividing, not by the operation that the program takes.
func within(a, b int) bool {
	for range api.Bits {
		if a%2 == 1 && b%2 == 0 {
			return false
		}
		a, b = a/2, b/2
	}
	return true
}

func wantGet(t *testing.T, l []api.Slot, fd int, want api.Cap, wantErr api.Errno) {
	t.Helper()
	c, err := Get(l, fd)
	wantSame(t, fmt.Sprintf("Get(%v, %d)", l, fd), []any{c, err}, []any{want, wantErr})
}

func wantWith(t *testing.T, l []api.Slot, fd, need int, want api.Cap, wantErr api.Errno) {
	t.Helper()
	c, err := With(l, fd, need)
	wantSame(t, fmt.Sprintf("With(%v, %d, %d)", l, fd, need), []any{c, err}, []any{want, wantErr})
}

func wantPut(t *testing.T, l []api.Slot, c api.Cap, want []api.Slot, wantAt int, wantErr api.Errno) {
	t.Helper()
	got, at, err := Put(l, c)
	wantSame(t, fmt.Sprintf("Put(%v, %v)", l, c), []any{got, at, err}, []any{want, wantAt, wantErr})
}

func wantClose(t *testing.T, l []api.Slot, fd int, want []api.Slot, wantErr api.Errno) {
	t.Helper()
	got, err := Close(l, fd)
	wantSame(t, fmt.Sprintf("Close(%v, %d)", l, fd), []any{got, err}, []any{want, wantErr})
}

func wantDup(t *testing.T, l []api.Slot, fd int, want []api.Slot, wantAt int, wantErr api.Errno) {
	t.Helper()
	got, at, err := Dup(l, fd)
	wantSame(t, fmt.Sprintf("Dup(%v, %d)", l, fd), []any{got, at, err}, []any{want, wantAt, wantErr})
}

func wantLimit(t *testing.T, l []api.Slot, fd, n int, want []api.Slot, wantErr api.Errno) {
	t.Helper()
	got, err := Limit(l, fd, n)
	wantSame(t, fmt.Sprintf("Limit(%v, %d, %d)", l, fd, n), []any{got, err}, []any{want, wantErr})
}

func TestGet(t *testing.T) {
	wantGet(t, some(), 0, api.Cap{Open: 4, Rights: 3}, api.OK)
	wantGet(t, some(), 2, api.Cap{Open: 0, Rights: api.Every}, api.OK)
	wantGet(t, some(), 4, api.Cap{Open: 59}, api.OK)
	wantGet(t, some(), 5, api.Cap{Open: 4, Rights: 2049}, api.OK)
	wantGet(t, []api.Slot{has(0, 0)}, 0, api.Cap{}, api.OK)
}

// What is nowhere is told by every call that asks for a slot, ahead of all else.
func TestWhatIsNowhere(t *testing.T) {
	nowhere := func(l []api.Slot, fd int) {
		t.Helper()
		wantGet(t, l, fd, api.Cap{}, api.ErrNone)
		wantClose(t, l, fd, nil, api.ErrNone)
		wantDup(t, l, fd, nil, 0, api.ErrNone)
		for _, n := range append(slices.Clone(noSets), someSets...) {
			wantWith(t, l, fd, n, api.Cap{}, api.ErrNone)
			wantLimit(t, l, fd, n, nil, api.ErrNone)
		}
	}
	for _, l := range [][]api.Slot{nil, {}, some(), full(), {{}}, {left()}} {
		for _, fd := range append([]int{len(l), len(l) + 1}, farNumbers...) {
			nowhere(l, fd)
		}
	}
	nowhere(nil, 0)
	nowhere([]api.Slot{{}}, 0)
	nowhere([]api.Slot{left()}, 0)
	nowhere(some(), 1)
	nowhere(some(), 3)
}

func TestWith(t *testing.T) {
	for _, r := range someSets {
		l := []api.Slot{{}, has(3, r)}
		for need := 0; need <= api.Every; need++ {
			if within(need, r) {
				wantWith(t, l, 1, need, api.Cap{Open: 3, Rights: r}, api.OK)
			} else {
				wantWith(t, l, 1, need, api.Cap{}, api.ErrRight)
			}
		}
		for _, need := range noSets {
			wantWith(t, l, 1, need, api.Cap{}, api.ErrRight)
		}
	}
}

func TestPutTakesTheFirstSlotThatHasNone(t *testing.T) {
	c := api.Cap{Open: 7, Rights: 2049}
	wantPut(t, nil, c, []api.Slot{has(7, 2049)}, 0, api.OK)
	wantPut(t, []api.Slot{}, c, []api.Slot{has(7, 2049)}, 0, api.OK)
	wantPut(t, []api.Slot{{}, {}}, c, []api.Slot{has(7, 2049), {}}, 0, api.OK)
	wantPut(t, []api.Slot{left()}, c, []api.Slot{has(7, 2049)}, 0, api.OK)
	wantPut(t, some(), c, with(some(), 1, has(7, 2049)), 1, api.OK)
	wantPut(t, with(some(), 1, has(0, 0)), c, with(with(some(), 1, has(0, 0)), 3, has(7, 2049)), 3, api.OK)
	for n := range api.MaxSlots {
		wantPut(t, full()[:n], c, append(full()[:n], has(7, 2049)), n, api.OK)
		wantPut(t, with(full(), n, api.Slot{}), c, with(full(), n, has(7, 2049)), n, api.OK)
		wantPut(t, with(full(), n, left()), c, with(full(), n, has(7, 2049)), n, api.OK)
	}
}

func TestPutTakesEverySet(t *testing.T) {
	for r := 0; r <= api.Every; r++ {
		wantPut(t, nil, api.Cap{Rights: r}, []api.Slot{has(0, r)}, 0, api.OK)
	}
	for _, open := range []int{0, 1, api.MaxOpens, 1 << 32, math.MaxInt} {
		wantPut(t, nil, api.Cap{Open: open}, []api.Slot{has(open, 0)}, 0, api.OK)
	}
}

func TestPutOfWhatIsNoCapability(t *testing.T) {
	for _, l := range [][]api.Slot{nil, some(), full()} {
		for _, r := range noSets {
			wantPut(t, l, api.Cap{Open: 1, Rights: r}, nil, 0, api.ErrRange)
			wantPut(t, l, api.Cap{Open: -1, Rights: r}, nil, 0, api.ErrRange)
		}
		for _, open := range []int{-1, -2, -1 << 32, math.MinInt} {
			wantPut(t, l, api.Cap{Open: open, Rights: 1}, nil, 0, api.ErrRange)
		}
	}
}

func TestPutUntilFull(t *testing.T) {
	wantPut(t, full(), api.Cap{Open: 1, Rights: 1}, nil, 0, api.ErrFull)
	wantPut(t, append(full(), full()...), api.Cap{}, nil, 0, api.ErrFull)
	long := append(full(), has(1, 1), api.Slot{})
	wantPut(t, long, api.Cap{Open: 2, Rights: 2}, with(long, 11, has(2, 2)), 11, api.OK)
}

func TestClose(t *testing.T) {
	wantClose(t, some(), 0, with(some(), 0, api.Slot{}), api.OK)
	wantClose(t, some(), 2, with(some(), 2, api.Slot{}), api.OK)
	wantClose(t, some(), 5, some()[:5], api.OK)
	wantClose(t, []api.Slot{has(1, 1)}, 0, nil, api.OK)
	for fd := range api.MaxSlots - 1 {
		wantClose(t, full(), fd, with(full(), fd, api.Slot{}), api.OK)
	}
	wantClose(t, full(), api.MaxSlots-1, full()[:api.MaxSlots-1], api.OK)
}

func TestSlotsAtTheEndGo(t *testing.T) {
	wantClose(t, []api.Slot{has(1, 1), {}, left(), {}, has(2, 2)}, 4, []api.Slot{has(1, 1)}, api.OK)
	wantClose(t, []api.Slot{{}, left(), {}, has(2, 2)}, 3, nil, api.OK)
	wantClose(t, []api.Slot{has(1, 1), has(2, 2), {}, left()}, 0, []api.Slot{{}, has(2, 2)}, api.OK)
	wantClose(t, []api.Slot{has(1, 1), has(2, 2), left()}, 1, []api.Slot{has(1, 1)}, api.OK)
	wantClose(t, []api.Slot{has(1, 1), {}}, 0, nil, api.OK)
	long := make([]api.Slot, 1<<16)
	long[len(long)-1] = has(1, 1)
	wantClose(t, long, len(long)-1, nil, api.OK)
}

func TestClosedOnceIsClosed(t *testing.T) {
	for _, fd := range All(some()) {
		l, err := Close(some(), fd)
		wantSame(t, "Close", err, api.OK)
		wantClose(t, l, fd, nil, api.ErrNone)
	}
}

func TestDup(t *testing.T) {
	wantDup(t, some(), 0, with(some(), 1, has(4, 3)), 1, api.OK)
	wantDup(t, some(), 4, with(some(), 1, has(59, 0)), 1, api.OK)
	wantDup(t, some(), 5, with(some(), 1, has(4, 2049)), 1, api.OK)
	wantDup(t, []api.Slot{left(), has(1, 2)}, 1, []api.Slot{has(1, 2), has(1, 2)}, 0, api.OK)
	for n := 1; n < api.MaxSlots; n++ {
		wantDup(t, full()[:n], n-1, with(full()[:n], n, has(n-1, 7<<(n-1)&api.Every)), n, api.OK)
	}
	for fd := range full() {
		wantDup(t, full(), fd, nil, 0, api.ErrFull)
	}
}

// A capability that Put would not take is not copied either.
func TestDupOfWhatIsNoCapability(t *testing.T) {
	for _, s := range []api.Slot{has(-1, 1), has(1, -1), has(1, api.Every+1)} {
		wantDup(t, []api.Slot{s}, 0, nil, 0, api.ErrRange)
		wantDup(t, with(full(), 4, s), 4, nil, 0, api.ErrRange)
	}
}

func TestLimit(t *testing.T) {
	for _, r := range someSets {
		l := []api.Slot{has(1, 1), left(), has(3, r), has(3, r)}
		for n := 0; n <= api.Every; n++ {
			if within(n, r) {
				wantLimit(t, l, 2, n, with(l, 2, has(3, n)), api.OK)
			} else {
				wantLimit(t, l, 2, n, nil, api.ErrRight)
			}
		}
		for _, n := range noSets {
			wantLimit(t, l, 2, n, nil, api.ErrRange)
		}
	}
	wantLimit(t, full(), 9, 512, with(full(), 9, has(9, 512)), api.OK)
	wantLimit(t, []api.Slot{has(1, 1), {}}, 0, 0, []api.Slot{has(1, 0), {}}, api.OK)
}

// Example 7: rights 3, limited to 1, may not write any more.
func TestLimitedMayNotWriteAnyMore(t *testing.T) {
	l, fd, _ := Put(nil, api.Cap{Open: 2, Rights: api.Read | api.Write})
	wantWith(t, l, fd, api.Write, api.Cap{Open: 2, Rights: 3}, api.OK)
	l, _ = Limit(l, fd, api.Read)
	wantWith(t, l, fd, api.Write, api.Cap{}, api.ErrRight)
	wantWith(t, l, fd, api.Read, api.Cap{Open: 2, Rights: 1}, api.OK)
	wantLimit(t, l, fd, 3, nil, api.ErrRight)
	l, other, _ := Dup(l, fd)
	wantLimit(t, l, other, 3, nil, api.ErrRight)
}

func TestAll(t *testing.T) {
	wantSame(t, "All", All(nil), []int{})
	wantSame(t, "All", All([]api.Slot{}), []int{})
	wantSame(t, "All", All([]api.Slot{{}, left()}), []int{})
	wantSame(t, "All", All(some()), []int{0, 2, 4, 5})
	wantSame(t, "All", All(full()), []int{0, 1, 2, 3, 4, 5, 6, 7, 8, 9})
	wantSame(t, "All", All(append(full(), left(), has(0, 0))), []int{0, 1, 2, 3, 4, 5, 6, 7, 8, 9, 11})
}

// numbers are the same ones each time, so that a failure can be looked at again.
func numbers() func(below int) int {
	state := uint64(20261118)
	return func(below int) int {
		state = state*6364136223846793005 + 1442695040888963407
		return int((state >> 33) % uint64(below))
	}
}

// model keeps capabilities by their slots' numbers, by another way than the
// program's; last is the highest number that has one.
type model map[int]api.Cap

func (m model) last() int {
	last := -1
	for at := range m {
		last = max(last, at)
	}
	return last
}

func (m model) slots() []api.Slot {
	l := make([]api.Slot, m.last()+1)
	for at, c := range m {
		l[at] = api.Slot{Has: true, Cap: c}
	}
	return l
}

func (m model) put(c api.Cap) (int, api.Errno) {
	if c.Rights < 0 || c.Rights > 4095 || c.Open < 0 {
		return 0, api.ErrRange
	}
	for at := range 10 {
		if _, there := m[at]; !there {
			m[at] = c
			return at, api.OK
		}
	}
	return 0, api.ErrFull
}

func (m model) limit(fd, n int) api.Errno {
	c, there := m[fd]
	switch {
	case !there:
		return api.ErrNone
	case n < 0 || n > 4095:
		return api.ErrRange
	case !within(n, c.Rights):
		return api.ErrRight
	}
	m[fd] = api.Cap{Open: c.Open, Rights: n}
	return api.OK
}

func TestAnything(t *testing.T) {
	next := numbers()
	counts := map[string]int{}
	for range 60 {
		m, l := model{}, []api.Slot(nil)
		for range 100 {
			var did string
			l, did = step(t, l, m, next)
			counts[did]++
			wantSame(t, "the table behind "+did, l, m.slots())
			wantAsked(t, l, m, next)
			if t.Failed() {
				return
			}
		}
	}
	for _, did := range []string{"put 0", "put 3", "put 15", "close 0", "close 6", "dup 0", "dup 6", "dup 15", "limit 0", "limit 3", "limit 6", "limit 10"} {
		if counts[did] < 20 {
			t.Errorf("%s came %d times: these tell little", did, counts[did])
		}
	}
}

// step does one and the same to the table and to the model; it tells what.
func step(t *testing.T, l []api.Slot, m model, next func(int) int) ([]api.Slot, string) {
	t.Helper()
	fd, n := next(12)-1, next(4600)-250
	was, there := m[fd]
	keep := func(what string, got []api.Slot, err, want api.Errno) ([]api.Slot, string) {
		wantSame(t, what, err, want)
		if err != api.OK {
			got = l
		}
		return got, fmt.Sprint(what, " ", int(err))
	}
	switch next(7) {
	case 0, 1:
		c := api.Cap{Open: next(20) - 1, Rights: n}
		got, at, err := Put(l, c)
		wantAt, want := m.put(c)
		wantSame(t, "Put's slot", at, wantAt)
		return keep("put", got, err, want)
	case 2, 3:
		got, at, err := Dup(l, fd)
		wantAt, want := 0, api.ErrNone
		if there {
			wantAt, want = m.put(was)
		}
		wantSame(t, "Dup's slot", at, wantAt)
		return keep("dup", got, err, want)
	case 4:
		got, err := Close(l, fd)
		delete(m, fd)
		if there {
			return keep("close", got, err, api.OK)
		}
		return keep("close", got, err, api.ErrNone)
	}
	if next(3) == 0 {
		n = max(n, 0) & was.Rights
	}
	got, err := Limit(l, fd, n)
	return keep("limit", got, err, m.limit(fd, n))
}

func wantAsked(t *testing.T, l []api.Slot, m model, next func(int) int) {
	t.Helper()
	var all []int
	for fd := -1; fd < 12; fd++ {
		c, there := m[fd]
		if !there {
			wantGet(t, l, fd, api.Cap{}, api.ErrNone)
			continue
		}
		all = append(all, fd)
		wantGet(t, l, fd, c, api.OK)
		wantWith(t, l, fd, c.Rights, c, api.OK)
		if need := next(4096); !within(need, c.Rights) {
			wantWith(t, l, fd, need, api.Cap{}, api.ErrRight)
		}
	}
	wantSame(t, "All", All(l), all)
}

// Whatever becomes of one capability, none that comes of it has more than it had.
func TestRightsOnlyGo(t *testing.T) {
	next := numbers()
	for range 300 {
		start := next(4096)
		l, _, _ := Put(nil, api.Cap{Open: 3, Rights: start})
		for range 60 {
			fd := next(10)
			var got []api.Slot
			var err api.Errno
			switch next(4) {
			case 0:
				got, _, err = Dup(l, fd)
			case 1:
				got, err = Close(l, fd)
			default:
				got, err = Limit(l, fd, next(4096)&(start|next(4096)))
			}
			if err == api.OK && len(got) > 0 {
				l = got
			}
			for _, s := range l {
				if s.Has && (!within(s.Cap.Rights, start) || s.Cap.Open != 3) {
					t.Fatalf("of rights %d of open file 3 came %+v", start, s)
				}
			}
		}
	}
}

// roomy lays something behind a list, so that it shows if a call looks at it,
// or writes there.
func roomy(l []api.Slot) []api.Slot {
	return append(slices.Clone(l), api.Slot{}, has(8, 8), left())[:len(l)]
}

// calls answers what each call makes of one table.
func calls(l []api.Slot) [][]api.Slot {
	put, _, _ := Put(l, api.Cap{Open: 7, Rights: 7})
	behind, _, _ := Put(l[:1], api.Cap{Open: 7, Rights: 7})
	first, _, _ := Put(l[:0], api.Cap{Open: 7, Rights: 7})
	dup, _, _ := Dup(l, 0)
	dupBehind, _, _ := Dup(l[:1], 0)
	closed, _ := Close(l, 0)
	trimmed, _ := Close(l, 5)
	none, _ := Close(l[:1], 0)
	limited, _ := Limit(l, 0, 1)
	same, _ := Limit(l, 0, 3)
	return [][]api.Slot{put, behind, first, dup, dupBehind, closed, trimmed, none, limited, same}
}

func spoil(l []api.Slot) {
	for at := range l[:cap(l)] {
		l[:cap(l)][at] = has(-9, -9)
	}
}

func TestHandedInIsOnlyRead(t *testing.T) {
	room := roomy(some())
	before := told(room[:cap(room)])
	for at, want := range calls(some()) {
		wantSame(t, fmt.Sprint("with spare room behind, call ", at), calls(room)[at], want)
	}
	for fd := len(room); fd < cap(room); fd++ {
		wantGet(t, room, fd, api.Cap{}, api.ErrNone)
		wantClose(t, room, fd, nil, api.ErrNone)
	}
	wantSame(t, "All", All(room), []int{0, 2, 4, 5})
	wantSame(t, "what was handed in", told(room[:cap(room)]), before)
}

func TestNothingIsKept(t *testing.T) {
	room := roomy(some())
	got, all := calls(room), All(room)
	spoil(room)
	for at, want := range calls(some()) {
		wantSame(t, fmt.Sprint("once what was handed in is changed, call ", at), got[at], want)
	}
	wantSame(t, "All", all, []int{0, 2, 4, 5})
}

func TestAnswersAreNew(t *testing.T) {
	room := roomy(some())
	before := told(room[:cap(room)])
	for _, l := range calls(room) {
		spoil(l)
	}
	wantSame(t, "what was handed in, once answers are changed,", told(room[:cap(room)]), before)
}

func TestNoCallPanics(t *testing.T) {
	odd := append([]int{0, 1, 5, 9, 10}, append(slices.Clone(farNumbers), noSets...)...)
	for _, l := range [][]api.Slot{nil, {}, {{}}, {left()}, some(), full(), {has(-1, -1), has(math.MinInt, math.MaxInt)}} {
		All(l)
		for _, a := range odd {
			Get(l, a)
			Close(l, a)
			Dup(l, a)
			for _, b := range odd {
				With(l, a, b)
				Limit(l, a, b)
				Put(l, api.Cap{Open: a, Rights: b})
			}
		}
	}
}
