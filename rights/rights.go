// Package rights has sets of rights: see doc/01-rights.md.
package rights

import (
	"math/bits"
	"slices"
	"strings"

	"ringfence/api"
)

// Each word has half of a set's bits beside a mark of its own, so that neither
// can be taken for the other.
const (
	halfBits = api.Bits / 2
	half     = 1<<halfBits - 1
	lowMark  = 64
	highMark = 128
)

func Right(n int) bool { return 0 <= n && n <= api.Every }

// Within goes by all bits, so that what is no set is never within one.
func Within(a, b int) bool { return a&^b == 0 }

func Meet(a, b int) int { return a & b }

func Join(a, b int) int { return a | b }

func Count(n int) int { return bits.OnesCount(uint(n & api.Every)) }

// Names makes its list anew each time, since that is the caller's to change.
func Names() []string {
	return []string{
		"read", "write", "seek", "lookup", "create", "unlink",
		"list", "stat", "send", "recv", "wait", "kill",
	}
}

func Print(n int) string {
	var in []string
	for bit, name := range Names() {
		if n>>bit&1 == 1 {
			in = append(in, name)
		}
	}
	return strings.Join(in, ",")
}

// Parse cuts name by name, so that a long text costs no more than its first error.
func Parse(s string) (int, api.Errno) {
	if s == "" {
		return 0, api.OK
	}
	names := Names()
	set, last := 0, -1
	for more := true; more; {
		var name string
		name, s, more = strings.Cut(s, ",")
		bit := slices.Index(names, name)
		if bit < 0 {
			return 0, api.ErrNone
		}
		if bit <= last {
			return 0, api.ErrForm
		}
		set |= 1 << bit
		last = bit
	}
	return set, api.OK
}

func Words(n int) [2]int {
	return [2]int{n&half | lowMark, n>>halfBits&half | highMark}
}

func FromWords(w [2]int) (int, api.Errno) {
	if w[0]&^half != lowMark || w[1]&^half != highMark {
		return 0, api.ErrForm
	}
	return w[0]&half | w[1]&half<<halfBits, api.OK
}
