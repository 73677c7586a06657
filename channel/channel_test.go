package channel

import (
	"fmt"
	"math"
	"slices"
	"strings"
	"testing"

	"ringfence/api"
	"ringfence/store"
)

var farNumbers = []int{math.MinInt, math.MinInt + 1, -1 << 32, -2, -1, 1 << 16, 1 << 32, math.MaxInt - 1, math.MaxInt}

// told tells lists without entries alike, be they nil or empty.
func told(x any) string { return fmt.Sprintf("%+v", x) }

func wantSame(t *testing.T, what string, got, want any) {
	t.Helper()
	if told(got) != told(want) {
		t.Errorf("%s is %+v, not %+v", what, got, want)
	}
}

func message(s string) api.Message { return api.Message{Data: []byte(s)} }

func carrier(s string, open, rights int) api.Message {
	return api.Message{Data: []byte(s), Has: true, Cap: api.Cap{Open: open, Rights: rights}}
}

func anEnd(peer int, queue ...api.Message) api.Object {
	return api.Object{Kind: api.ObjEnd, Peer: peer, Proc: -1, Queue: queue}
}

func file(s string) api.Object {
	return api.Object{Kind: api.ObjFile, Data: []byte(s), Peer: -1, Proc: -1}
}

// queue is what waits, n messages of it.
func queue(n int) []api.Message {
	all := []api.Message{carrier("a", 1, 3), message(""), message("ccc"), carrier("", 0, api.Every), message("e"), message("f")}
	return all[:n]
}

// some has a channel, ends whose Peers are of every sort, and objects of
// every kind that stand between two ends as ends do, though they are none.
func some() []api.Object {
	return []api.Object{
		{Kind: api.ObjDir, Peer: whole, Proc: -1, Links: 1, Queue: queue(2)},
		anEnd(right, queue(2)...),
		anEnd(left, queue(3)...),
		{Kind: api.ObjFile, Data: []byte("file"), Peer: whole, Proc: -1, Queue: queue(1)},
		{Kind: api.ObjLink, Target: "x", Peer: whole, Proc: -1, Queue: queue(1)},
		{Peer: whole, Queue: queue(1)},
		{Kind: api.ObjProc, Peer: whole, Proc: 1, Queue: queue(1)},
		anEnd(-1, queue(2)...),
		anEnd(-1),
		anEnd(filled),
		anEnd(whole, queue(api.MaxQueue)...),
		anEnd(whole),
		{Kind: 6, Peer: whole, Queue: queue(1)},
		{Kind: -4, Peer: whole, Queue: queue(1)},
	}
}

const (
	root, left, right, plain, link, freed, proc, alone, dry, whole, filled, itself, odd, below = 0, 1, 2, 3, 4, 5, 6, 7, 8, 9, 10, 11, 12, 13
)

var noEnds = []int{root, plain, link, freed, proc, odd, below, below + 1, below + 2}

// with is the list with one object changed, or one more behind it.
func with(l []api.Object, at int, o api.Object) []api.Object {
	l = slices.Clone(l)
	if at == len(l) {
		return append(l, o)
	}
	l[at] = o
	return l
}

func withQueue(l []api.Object, at int, queue ...api.Message) []api.Object {
	o := l[at]
	o.Queue = queue
	return with(l, at, o)
}

func withPeer(l []api.Object, at, peer int) []api.Object {
	o := l[at]
	o.Peer = peer
	return with(l, at, o)
}

// files are n objects, none of them free, so that there is room for the rest.
func files(n int) []api.Object {
	var l []api.Object
	for i := range n {
		l = append(l, file(fmt.Sprint(i)))
	}
	return l
}

func wantPair(t *testing.T, l, want []api.Object, first, second int) {
	t.Helper()
	got, at, err := Pair(l)
	wantSame(t, fmt.Sprintf("Pair(%v)", l), []any{got, at, err}, []any{want, [2]int{first, second}, api.OK})
}

func refusePair(t *testing.T, l []api.Object, wantErr api.Errno) {
	t.Helper()
	got, at, err := Pair(l)
	wantSame(t, fmt.Sprintf("Pair(%v)", l), []any{got, at, err}, []any{[]api.Object{}, [2]int{}, wantErr})
}

func wantSend(t *testing.T, l []api.Object, end int, m api.Message, want []api.Object) {
	t.Helper()
	got, err := Send(l, end, m)
	wantSame(t, fmt.Sprintf("Send(%v, %d, %v)", l, end, m), []any{got, err}, []any{want, api.OK})
}

func refuseSend(t *testing.T, l []api.Object, end int, m api.Message, wantErr api.Errno) {
	t.Helper()
	got, err := Send(l, end, m)
	wantSame(t, fmt.Sprintf("Send(%v, %d, %v)", l, end, m), []any{got, err}, []any{[]api.Object{}, wantErr})
}

func wantRecv(t *testing.T, l []api.Object, end int, m api.Message, want []api.Object) {
	t.Helper()
	got, came, err := Recv(l, end)
	wantSame(t, fmt.Sprintf("Recv(%v, %d)", l, end), []any{got, came, err}, []any{want, m, api.OK})
}

func refuseRecv(t *testing.T, l []api.Object, end int, wantErr api.Errno) {
	t.Helper()
	got, came, err := Recv(l, end)
	wantSame(t, fmt.Sprintf("Recv(%v, %d)", l, end), []any{got, came, err}, []any{[]api.Object{}, api.Message{}, wantErr})
}

func TestPair(t *testing.T) {
	wantPair(t, store.New(), append(store.New(), anEnd(2), anEnd(1)), 1, 2)
	wantPair(t, nil, []api.Object{anEnd(1), anEnd(0)}, 0, 1)
	wantPair(t, []api.Object{}, []api.Object{anEnd(1), anEnd(0)}, 0, 1)
	wantPair(t, files(5), append(files(5), anEnd(6), anEnd(5)), 5, 6)
}

func TestPairTakesTheFirstFreeNumbers(t *testing.T) {
	for a := range 6 {
		l := with(files(6), a, api.Object{})
		wantPair(t, l, append(with(l, a, anEnd(6)), anEnd(a)), a, 6)
		for b := range a {
			l := with(l, b, api.Object{})
			wantPair(t, l, with(with(l, b, anEnd(a)), a, anEnd(b)), b, a)
			l = append(l, api.Object{}, file("z"))
			wantPair(t, l, with(with(l, b, anEnd(a)), a, anEnd(b)), b, a)
		}
	}
	spoilt := api.Object{Peer: 7, Proc: 3, Links: 9, Up: 8, Target: "x", Data: []byte("x"), Queue: queue(2)}
	wantPair(t, []api.Object{file("a"), spoilt, spoilt, spoilt}, []api.Object{file("a"), anEnd(2), anEnd(1), spoilt}, 1, 2)
	got, want := some(), some()
	want[freed] = anEnd(len(want))
	wantPair(t, got, append(want, anEnd(freed)), freed, len(got))
}

func TestPairUntilFull(t *testing.T) {
	n := api.MaxObjects
	wantPair(t, files(n-2), append(files(n-2), anEnd(n-1), anEnd(n-2)), n-2, n-1)
	refusePair(t, files(n-1), api.ErrFull)
	refusePair(t, files(n), api.ErrFull)
	refusePair(t, files(n+3), api.ErrFull)
	one := with(files(n), 7, api.Object{})
	refusePair(t, one, api.ErrFull)
	wantPair(t, one[:n-1], append(with(one[:n-1], 7, anEnd(n-1)), anEnd(7)), 7, n-1)
	two := with(one, 20, api.Object{})
	wantPair(t, two, with(with(two, 7, anEnd(20)), 20, anEnd(7)), 7, 20)
	wantPair(t, append(two, file("z")), append(with(with(two, 7, anEnd(20)), 20, anEnd(7)), file("z")), 7, 20)
}

// Example 9: what is sent to one end comes at the other one.
func TestWhatIsSentComesAtTheOtherEnd(t *testing.T) {
	l, ends, _ := Pair(store.New())
	for at, end := range ends {
		sent, err := Send(l, end, carrier("hello", 3, 7))
		wantSame(t, "Send", err, api.OK)
		refuseRecv(t, sent, end, api.ErrAgain)
		wantRecv(t, sent, ends[1-at], carrier("hello", 3, 7), l)
	}
}

func TestSendWaitsBehindTheOthers(t *testing.T) {
	for n := range api.MaxQueue {
		for _, m := range []api.Message{{}, message("m"), carrier("m", 2, 5), carrier("", 0, 0), {Cap: api.Cap{Open: 4, Rights: 2}}, {Has: true, Cap: api.Cap{Open: -3, Rights: 1 << 20}}} {
			l := withQueue(some(), right, queue(n)...)
			wantSend(t, l, left, m, withQueue(l, right, append(slices.Clone(queue(n)), m)...))
			l = withQueue(l, left, queue(api.MaxQueue)...)
			wantSend(t, l, left, m, withQueue(l, right, append(slices.Clone(queue(n)), m)...))
		}
	}
}

// A Peer's own Peer says nothing of who may send to it.
func TestSendGoesByPeerAlone(t *testing.T) {
	l := withPeer(some(), itself, right)
	wantSend(t, l, itself, message("m"), withQueue(l, right, append(slices.Clone(queue(3)), message("m"))...))
	for _, peer := range []int{-1, itself, plain, 99} {
		l := withPeer(some(), right, peer)
		wantSend(t, l, left, message("m"), withQueue(l, right, append(slices.Clone(queue(3)), message("m"))...))
	}
	l = withPeer(some(), itself, itself)
	wantSend(t, l, itself, message("m"), withQueue(l, itself, message("m")))
}

func TestSendHasRoomForMaxData(t *testing.T) {
	for _, n := range []int{0, 1, api.MaxData - 1, api.MaxData} {
		m := carrier(strings.Repeat("x", n), 1, 1)
		wantSend(t, some(), right, m, withQueue(some(), left, append(slices.Clone(queue(2)), m)...))
	}
	for _, n := range []int{api.MaxData + 1, api.MaxData + 2, 1 << 16} {
		refuseSend(t, some(), right, carrier(strings.Repeat("x", n), 1, 1), api.ErrMuch)
	}
}

func TestSendUntilFull(t *testing.T) {
	l := withQueue(some(), right)
	for n := range api.MaxQueue {
		m := message(fmt.Sprint(n))
		got, err := Send(l, left, m)
		wantSame(t, "Send", []any{got, err}, []any{withQueue(l, right, append(slices.Clone(l[right].Queue), m)...), api.OK})
		l = got
	}
	refuseSend(t, l, left, message("m"), api.ErrFull)
	refuseSend(t, withQueue(l, right, queue(5)...), left, message(""), api.ErrFull)
	_, _, err := Recv(l, right)
	wantSame(t, "Recv", err, api.OK)
	refuseSend(t, l, left, message("m"), api.ErrFull)
	l, _, _ = Recv(l, right)
	wantSend(t, l, left, message("m"), withQueue(l, right, append(slices.Clone(l[right].Queue), message("m"))...))
}

func TestSendErrorsInTheirOrder(t *testing.T) {
	much := message(strings.Repeat("x", api.MaxData+1))
	for _, m := range []api.Message{message("m"), much} {
		for _, end := range append(slices.Clone(noEnds), farNumbers...) {
			refuseSend(t, some(), end, m, api.ErrFit)
			refuseSend(t, withPeer(some(), whole, end), whole, m, api.ErrPipe)
		}
		refuseSend(t, some(), alone, m, api.ErrPipe)
		refuseSend(t, some(), dry, m, api.ErrPipe)
		refuseSend(t, nil, 0, m, api.ErrFit)
		refuseSend(t, []api.Object{anEnd(1)}, 0, m, api.ErrPipe)
	}
	refuseSend(t, some(), whole, much, api.ErrMuch)
	refuseSend(t, some(), whole, message("m"), api.ErrFull)
	wantSend(t, some(), filled, message("m"), withQueue(some(), whole, message("m")))
}

func TestRecvTakesTheFirst(t *testing.T) {
	for n := 1; n <= 6; n++ {
		l := withQueue(some(), left, queue(n)...)
		wantRecv(t, l, left, queue(1)[0], withQueue(l, left, queue(n)[1:]...))
	}
	for at, m := range []api.Message{{}, message(strings.Repeat("x", 1000)), carrier("", -1, -1), {Cap: api.Cap{Open: 4, Rights: 2}}} {
		l := withQueue(some(), left, m, message(fmt.Sprint(at)))
		wantRecv(t, l, left, m, withQueue(l, left, message(fmt.Sprint(at))))
	}
}

// What was sent comes though nobody is there any more.
func TestRecvOfAnEndThatIsAlone(t *testing.T) {
	for _, peer := range append(slices.Clone(noEnds), farNumbers...) {
		l := withPeer(some(), alone, peer)
		wantRecv(t, l, alone, queue(2)[0], withQueue(l, alone, queue(2)[1]))
		refuseRecv(t, withQueue(l, alone), alone, api.ErrPipe)
	}
	l := some()
	for _, m := range queue(2) {
		got, came, err := Recv(l, alone)
		wantSame(t, "what came", []any{came, err}, []any{m, api.OK})
		l = got
	}
	refuseRecv(t, l, alone, api.ErrPipe)
}

func TestRecvErrors(t *testing.T) {
	for _, end := range append(slices.Clone(noEnds), farNumbers...) {
		refuseRecv(t, some(), end, api.ErrFit)
	}
	refuseRecv(t, nil, 0, api.ErrFit)
	refuseRecv(t, some(), dry, api.ErrPipe)
	refuseRecv(t, some(), whole, api.ErrAgain)
	refuseRecv(t, some(), itself, api.ErrAgain)
	refuseRecv(t, withPeer(some(), itself, itself), itself, api.ErrAgain)
	refuseRecv(t, withPeer(some(), itself, alone), itself, api.ErrAgain)
	refuseRecv(t, []api.Object{anEnd(1)}, 0, api.ErrPipe)
	refuseRecv(t, []api.Object{anEnd(0)}, 0, api.ErrAgain)
}

// numbers are the same ones each time, so that a failure can be looked at again.
func numbers() func(below int) int {
	state := uint64(20261118)
	return func(below int) int {
		state = state*6364136223846793005 + 1442695040888963407
		return int((state >> 33) % uint64(below))
	}
}

// model keeps for each end how many messages were ever sent to it, how many
// of them came, and how long each one was: the number of a message says what
// is in it.
type model struct {
	peers map[int]int
	sent  map[int][]int
	came  map[int]int
}

// text tells messages apart by the end that they wait at, and by their turn.
func text(end, turn, long int) string {
	s := fmt.Sprint(end, "/", turn, "/")
	return s + strings.Repeat(".", max(0, long-len(s)))
}

func numbered(end, turn, long int) api.Message {
	return api.Message{Data: []byte(text(end, turn, long)), Has: turn%3 == 0, Cap: api.Cap{Open: turn, Rights: end}}
}

func (m model) objects(n int) []api.Object {
	l := files(n)
	for end, peer := range m.peers {
		l[end] = anEnd(peer)
		for turn := m.came[end]; turn < len(m.sent[end]); turn++ {
			l[end].Queue = append(l[end].Queue, numbered(end, turn, m.sent[end][turn]))
		}
	}
	return l
}

func (m model) send(end, long int) api.Errno {
	peer, there := m.peers[end]
	_, somebody := m.peers[peer]
	switch {
	case !there:
		return api.ErrFit
	case !somebody:
		return api.ErrPipe
	case long > 60:
		return api.ErrMuch
	case len(m.sent[peer])-m.came[peer] == 4:
		return api.ErrFull
	}
	m.sent[peer] = append(m.sent[peer], long)
	return api.OK
}

func (m model) recv(end int) (api.Message, api.Errno) {
	peer, there := m.peers[end]
	_, somebody := m.peers[peer]
	turn := m.came[end]
	switch {
	case !there:
		return api.Message{}, api.ErrFit
	case turn < len(m.sent[end]):
		m.came[end]++
		return numbered(end, turn, m.sent[end][turn]), api.OK
	case !somebody:
		return api.Message{}, api.ErrPipe
	}
	return api.Message{}, api.ErrAgain
}

// free has a file stand where an end was, as if that had gone.
func (m model) free(l []api.Object, end int) []api.Object {
	delete(m.peers, end)
	l = store.Own(l)
	l[end] = file(fmt.Sprint(end))
	for at, peer := range m.peers {
		if peer == end {
			m.peers[at], l[at].Peer = -1, -1
		}
	}
	return l
}

// What is sent comes, in turn, and once, whatever else is sent meanwhile.
func TestAnything(t *testing.T) {
	next := numbers()
	counts := map[string]int{}
	for range 40 {
		m := model{map[int]int{}, map[int][]int{}, map[int]int{}}
		l := files(1 + next(4))
		for range 250 {
			var did string
			l, did = step(t, l, m, next)
			counts[did]++
			wantSame(t, "what is there behind "+did, l, m.objects(len(l)))
			if t.Failed() {
				return
			}
		}
	}
	for _, did := range []string{"pair 0", "pair 15", "free", "send 0", "send 4", "send 8", "send 15", "send 17", "recv 0", "recv 8", "recv 16", "recv 17"} {
		if counts[did] < 30 {
			t.Errorf("%s came %d times: these tell little", did, counts[did])
		}
	}
}

// step does one and the same to the objects and to the model; it tells what.
func step(t *testing.T, l []api.Object, m model, next func(int) int) ([]api.Object, string) {
	t.Helper()
	end := next(len(l)+2) - 1
	switch kind := next(40); {
	case kind < 3:
		got, at, err := Pair(l)
		want := api.OK
		if len(l) > 38 {
			want = api.ErrFull
		}
		wantSame(t, "Pair", err, want)
		if err != api.OK {
			return l, fmt.Sprint("pair ", int(err))
		}
		wantSame(t, "Pair's ends", at, [2]int{len(l), len(l) + 1})
		m.peers[at[0]], m.peers[at[1]] = at[1], at[0]
		return got, "pair 0"
	case kind == 3:
		if _, there := m.peers[end]; there && next(2) == 0 {
			return m.free(l, end), "free"
		}
		return l, "nothing"
	case kind < 25:
		peer, long := m.peers[end], 6+next(60)
		turn := len(m.sent[peer])
		got, err := Send(l, end, numbered(peer, turn, long))
		if want := m.send(end, long); err != want {
			t.Errorf("Send(%v, %d, ..) tells %d, not %d", l, end, err, want)
		}
		if err != api.OK {
			got = l
		}
		return got, fmt.Sprint("send ", int(err))
	}
	got, came, err := Recv(l, end)
	want, wantErr := m.recv(end)
	wantSame(t, "what came", []any{came, err}, []any{want, wantErr})
	if err != api.OK {
		got = l
	}
	return got, fmt.Sprint("recv ", int(err))
}

// roomy lays something behind each list, so that it shows if a call looks at
// it, or writes there.
func roomy(l []api.Object) []api.Object {
	out := behind(l, api.Object{}, anEnd(left, queue(1)...))
	for at := range out {
		o := &out[at]
		o.Data = behind(o.Data, 'B', 'B', 'B', 'B')
		o.Queue = behind(o.Queue, carrier("behind", 9, 9), message("behind"))
		for i := range o.Queue {
			o.Queue[i] = roomyMessage(o.Queue[i])
		}
	}
	return out
}

func roomyMessage(m api.Message) api.Message {
	m.Data = behind(m.Data, 'B', 'B')
	return m
}

func behind[T any](l []T, more ...T) []T {
	return append(slices.Clone(l), more...)[:len(l)]
}

// all tells objects with the spare room of all their lists.
func all(l []api.Object) string {
	var out []string
	for _, o := range l[:cap(l)] {
		for _, m := range o.Queue[:cap(o.Queue)] {
			out = append(out, told(m.Data[:cap(m.Data)]))
		}
		out = append(out, told(o), told(o.Data[:cap(o.Data)]), told(o.Queue[:cap(o.Queue)]))
	}
	return strings.Join(out, "\n")
}

// calls answers what each call makes of the same objects.
func calls(l []api.Object, m api.Message) [][]api.Object {
	pair, _, _ := Pair(l)
	appended, _, _ := Pair(l[:freed])
	sent, _ := Send(l, left, m)
	first, _ := Send(l, filled, m)
	came, _, _ := Recv(l, left)
	last, _, _ := Recv(withQueue(l, right, l[right].Queue[:1]...), right)
	return [][]api.Object{pair, appended, sent, first, came, last}
}

func spoil(l []api.Object) {
	l = l[:cap(l)]
	for at := range l {
		o := &l[at]
		spoilBytes(o.Data)
		for i := range o.Queue[:cap(o.Queue)] {
			m := &o.Queue[:cap(o.Queue)][i]
			spoilBytes(m.Data)
			*m = api.Message{Cap: api.Cap{Open: -9}}
		}
		*o = api.Object{Kind: -9}
	}
}

func spoilBytes(b []byte) {
	for at := range b[:cap(b)] {
		b[:cap(b)][at] = '!'
	}
}

func TestHandedInIsOnlyRead(t *testing.T) {
	room, m := roomy(some()), roomyMessage(message("XY"))
	before := all(room)
	got := calls(room, m)
	for at, want := range calls(some(), message("XY")) {
		wantSame(t, fmt.Sprint("with spare room behind, call ", at), got[at], want)
	}
	refuseSend(t, room, len(room)+1, m, api.ErrFit)
	refuseSend(t, withPeer(room, left, len(room)+1), left, m, api.ErrPipe)
	refuseRecv(t, room, len(room)+1, api.ErrFit)
	refuseRecv(t, room, whole, api.ErrAgain)
	if all(room) != before || string(m.Data[:4]) != "XYBB" {
		t.Error("what was handed in is another one")
	}
}

func TestNothingIsKept(t *testing.T) {
	room, m := roomy(some()), message("XY")
	got := calls(room, m)
	_, came, _ := Recv(room, right)
	spoil(room)
	spoilBytes(m.Data)
	for at, want := range calls(some(), message("XY")) {
		wantSame(t, fmt.Sprint("once what was handed in is changed, call ", at), got[at], want)
	}
	wantSame(t, "what came", came, queue(1)[0])
}

func TestAnswersAreNew(t *testing.T) {
	room, m := roomy(some()), roomyMessage(message("XY"))
	before := all(room)
	for _, l := range calls(room, m) {
		spoil(l)
	}
	_, came, _ := Recv(room, right)
	spoilBytes(came.Data)
	if all(room) != before || string(m.Data[:4]) != "XYBB" {
		t.Error("answers share memory with what was handed in")
	}
}

// Objects that were handed in with one list for all of them have one each;
// what came is nowhere in the objects any more, not in spare room either.
func TestAnswersShareNothing(t *testing.T) {
	shared, m := some(), message("XY")
	shared[right].Queue, shared[filled].Queue = shared[left].Queue, shared[left].Queue
	shared[plain].Data, m.Data = shared[left].Queue[0].Data, shared[left].Queue[0].Data
	rest := func(l []api.Object, i int) string { return told(l[:i]) + told(l[i+1:]) }
	for at, answer := range calls(shared, m) {
		for i := range answer {
			l := calls(shared, m)[at]
			before := rest(l, i)
			spoil(l[i : i+1 : i+1])
			if rest(l, i) != before {
				t.Errorf("lists of answer %d share memory with those of object %d there", at, i)
			}
		}
	}
	l, came, _ := Recv(shared, left)
	before := told(l)
	spoilBytes(came.Data)
	wantSame(t, "the objects, once what came is changed,", told(l), before)
	l, came, _ = Recv(shared, left)
	before = told(came)
	spoil(l)
	wantSame(t, "what came, once the objects are changed,", told(came), before)
}

func TestNoCallPanics(t *testing.T) {
	ends := append([]int{0, 1, 2, 8, 9}, farNumbers...)
	lists := [][]api.Object{nil, {}, {{}}, some(), files(api.MaxObjects + 9), {{Kind: math.MinInt}, {Kind: math.MaxInt}}}
	for _, peer := range ends {
		lists = append(lists, []api.Object{anEnd(peer), anEnd(peer, queue(6)...)})
	}
	for _, l := range lists {
		Pair(l)
		for _, end := range ends {
			Recv(l, end)
			for _, m := range append(queue(6), api.Message{}, message(strings.Repeat("x", 1<<16))) {
				Send(l, end, m)
			}
		}
	}
}
