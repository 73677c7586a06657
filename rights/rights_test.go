package rights

import (
	"math"
	"slices"
	"strings"
	"testing"

	"ringfence/api"
)

var wantNames = []string{"read", "write", "seek", "lookup", "create", "unlink", "list", "stat", "send", "recv", "wait", "kill"}

// bitsInOrder are the rights by their own constants, so that a name that stands
// at another bit than its constant is found.
var bitsInOrder = []int{
	api.Read, api.Write, api.Seek, api.Lookup, api.Create, api.Unlink,
	api.List, api.Stat, api.Send, api.Recv, api.Wait, api.Kill,
}

func someSets() []int {
	l := []int{0, api.Every, 1365, 2730, 63, 4032, 2049, 64 | 32, 3, 4094, 2047}
	return append(l, bitsInOrder...)
}

var noSets = []int{-1, -2, -64, -4096, math.MinInt, api.Every + 1, 8191, 1 << 20, 1 << 31, math.MaxInt}

// members tells which rights are in a set by dividing, not by the operations under test.
func members(n int) [api.Bits]bool {
	var in [api.Bits]bool
	for i := range in {
		in[i] = n%2 == 1
		n /= 2
	}
	return in
}

func TestRight(t *testing.T) {
	for n := 0; n <= api.Every; n++ {
		if !Right(n) {
			t.Errorf("Right(%d) is false", n)
		}
	}
	for _, n := range noSets {
		if Right(n) {
			t.Errorf("Right(%d) is true", n)
		}
	}
}

func TestWithinMeetJoin(t *testing.T) {
	for a := 0; a <= api.Every; a++ {
		for _, b := range someSets() {
			within := true
			both, either := 0, 0
			ma, mb := members(a), members(b)
			for i, bit := range bitsInOrder {
				if ma[i] && !mb[i] {
					within = false
				}
				if ma[i] && mb[i] {
					both += bit
				}
				if ma[i] || mb[i] {
					either += bit
				}
			}
			if Within(a, b) != within {
				t.Fatalf("Within(%d, %d) is %v", a, b, !within)
			}
			if got := Meet(a, b); got != both {
				t.Fatalf("Meet(%d, %d) is %d, not %d", a, b, got, both)
			}
			if got := Join(a, b); got != either {
				t.Fatalf("Join(%d, %d) is %d, not %d", a, b, got, either)
			}
		}
	}
}

func TestLessIsLess(t *testing.T) {
	for _, a := range someSets() {
		for _, b := range someSets() {
			if !Within(Meet(a, b), a) || !Within(a, Join(a, b)) {
				t.Errorf("%d and %d: what both have is not within one, or one not within what either has", a, b)
			}
			if Within(a, b) != (Meet(a, b) == a) || Within(a, b) != (Join(a, b) == b) {
				t.Errorf("Within(%d, %d) disagrees with Meet or Join", a, b)
			}
		}
	}
}

func TestWithinNeedsEveryRightEvenOnesThatAreNone(t *testing.T) {
	for _, n := range noSets {
		if Within(n, api.Every) {
			t.Errorf("Within(%d, Every) is true", n)
		}
	}
}

func TestNames(t *testing.T) {
	if got := Names(); !slices.Equal(got, wantNames) {
		t.Errorf("Names() is %q", got)
	}
	for i, bit := range bitsInOrder {
		if got := Print(bit); got != wantNames[i] {
			t.Errorf("Print(%d) is %q, not %q", bit, got, wantNames[i])
		}
	}
}

func TestNamesAreTheCallers(t *testing.T) {
	l := Names()
	for i := range l {
		l[i] = "x"
	}
	_ = append(l[:0], "y")
	if got := Names(); !slices.Equal(got, wantNames) {
		t.Errorf("Names() is %q behind a change of an earlier answer", got)
	}
	if got := Print(api.Every); got != strings.Join(wantNames, ",") {
		t.Errorf("Print(Every) is %q behind a change of Names()", got)
	}
	if got, err := Parse("read"); got != api.Read || err != api.OK {
		t.Errorf("Parse(read) is %d, %d behind a change of Names()", got, err)
	}
}

func TestCountPrintAndParseOfEverySet(t *testing.T) {
	for n := 0; n <= api.Every; n++ {
		var in []string
		for i, is := range members(n) {
			if is {
				in = append(in, wantNames[i])
			}
		}
		if got := Count(n); got != len(in) {
			t.Fatalf("Count(%d) is %d, not %d", n, got, len(in))
		}
		text := strings.Join(in, ",")
		if got := Print(n); got != text {
			t.Fatalf("Print(%d) is %q, not %q", n, got, text)
		}
		if got, err := Parse(text); got != n || err != api.OK {
			t.Fatalf("Parse(%q) is %d, %d, not %d", text, got, err, n)
		}
	}
}

func TestParse(t *testing.T) {
	for _, c := range []struct {
		s    string
		want int
		err  api.Errno
	}{
		{"", 0, api.OK},
		{"read,kill", 2049, api.OK},
		{"unlink,list", 96, api.OK},
		{strings.Join(wantNames, ","), api.Every, api.OK},

		{"x", 0, api.ErrNone},
		{",", 0, api.ErrNone},
		{",read", 0, api.ErrNone},
		{"read,", 0, api.ErrNone},
		{"read,,write", 0, api.ErrNone},
		{"kill,", 0, api.ErrNone},
		{"Read", 0, api.ErrNone},
		{"READ", 0, api.ErrNone},
		{" read", 0, api.ErrNone},
		{"read ", 0, api.ErrNone},
		{"read, write", 0, api.ErrNone},
		{"read;write", 0, api.ErrNone},
		{"readwrite", 0, api.ErrNone},
		{"rea", 0, api.ErrNone},
		{"1", 0, api.ErrNone},
		{"read\x00", 0, api.ErrNone},
		{"\xff", 0, api.ErrNone},
		{"every", 0, api.ErrNone},

		{"read,read", 0, api.ErrForm},
		{"kill,kill", 0, api.ErrForm},
		{"write,read", 0, api.ErrForm},
		{"kill,read", 0, api.ErrForm},
		{"read,seek,write", 0, api.ErrForm},

		// from the left: the first one that is wrong is told, whatever stands behind it
		{"write,read,x", 0, api.ErrForm},
		{"x,write,read", 0, api.ErrNone},
		{"write,x,read", 0, api.ErrNone},
		{"read,read,", 0, api.ErrForm},
		{strings.Join(wantNames, ",") + ",read", 0, api.ErrForm},
		{strings.Join(wantNames, ",") + ",", 0, api.ErrNone},
	} {
		if got, err := Parse(c.s); got != c.want || err != c.err {
			t.Errorf("Parse(%q) is %d, %d, not %d, %d", c.s, got, err, c.want, c.err)
		}
	}
}

func TestParseOfMuch(t *testing.T) {
	if got, err := Parse(strings.Repeat(",", 1<<24)); got != 0 || err != api.ErrNone {
		t.Errorf("many commas: %d, %d", got, err)
	}
	if got, err := Parse(strings.Repeat("read,", 1<<20)); got != 0 || err != api.ErrForm {
		t.Errorf("one name many times: %d, %d", got, err)
	}
}

func TestWords(t *testing.T) {
	for n, want := range map[int][2]int{
		0:         {64, 128},
		1:         {65, 128},
		32:        {96, 128},
		63:        {127, 128},
		64:        {64, 129},
		2048:      {64, 160},
		2049:      {65, 160},
		1365:      {85, 149},
		api.Every: {127, 191},
	} {
		if got := Words(n); got != want {
			t.Errorf("Words(%d) is %v, not %v", n, got, want)
		}
	}
}

func TestFromWordsOfEveryPair(t *testing.T) {
	for a := -70; a < 300; a++ {
		for b := -70; b < 300; b++ {
			want, wantErr := 0, api.ErrForm
			if a >= 64 && a < 128 && b >= 128 && b < 192 {
				want, wantErr = a-64+64*(b-128), api.OK
			}
			got, err := FromWords([2]int{a, b})
			if got != want || err != wantErr {
				t.Fatalf("FromWords(%d, %d) is %d, %d, not %d, %d", a, b, got, err, want, wantErr)
			}
			if err == api.OK && Words(got) != [2]int{a, b} {
				t.Fatalf("Words(%d) is %v, not %d, %d", got, Words(got), a, b)
			}
		}
	}
}

func TestFromWordsFarAway(t *testing.T) {
	far := []int{math.MinInt, math.MinInt + 64, math.MinInt + 128, 64 - 1<<32, 128 - 1<<32, 64 + 1<<32, 128 + 1<<32, 64 + 1<<16, 128 + 1<<16, 64 + 256, 128 + 256, math.MaxInt}
	for _, n := range far {
		for _, w := range [][2]int{{n, 128}, {64, n}, {n, n}} {
			if got, err := FromWords(w); got != 0 || err != api.ErrForm {
				t.Errorf("FromWords(%v) is %d, %d", w, got, err)
			}
		}
	}
}

// Whatever is handed in, every call ends without a panic, and answers the same again.
func TestNoPanicOfWhatIsNoSet(t *testing.T) {
	for _, a := range noSets {
		if Count(a) != Count(a) || Print(a) != Print(a) || Words(a) != Words(a) {
			t.Errorf("%d: another answer the second time", a)
		}
		for _, b := range append(someSets(), noSets...) {
			if Within(a, b) != Within(a, b) || Meet(a, b) != Meet(b, a) || Join(a, b) != Join(b, a) {
				t.Errorf("%d, %d: another answer the second time, or the other way round", a, b)
			}
		}
	}
}
