// Package rights has sets of rights: see doc/01-rights.md.
package rights

import (
	"math/bits"
	"slices"
	"strings"

	"ringfence/api"
)

// A set is written as two words, each of half of its bits beside a mark of its
// own, so that neither can be taken for the other, nor for a set.
const (
	halfBits = api.Bits / 2
	half     = 1<<halfBits - 1
	lowMark  = 64
	highMark = 128
)

// Right tells whether n is a set of rights.
func Right(n int) bool { return 0 <= n && n <= api.Every }

// Within tells whether all rights of a are rights of b.
func Within(a, b int) bool { return a&^b == 0 }

// Meet has the rights that are in both.
func Meet(a, b int) int { return a & b }

// Join has the rights that are in one of them, or in both.
func Join(a, b int) int { return a | b }

// Count tells how many rights are in n.
func Count(n int) int { return bits.OnesCount(uint(n & api.Every)) }

// Names tells the rights' names in the order of their bits. They are made anew
// each time, since the list is the caller's to change.
func Names() []string {
	return []string{
		"read", "write", "seek", "lookup", "create", "unlink",
		"list", "stat", "send", "recv", "wait", "kill",
	}
}

// Print tells the names of the rights in n.
func Print(n int) string {
	var in []string
	for bit, name := range Names() {
		if n>>bit&1 == 1 {
			in = append(in, name)
		}
	}
	return strings.Join(in, ",")
}

// Parse reads what Print writes, and nothing else.
func Parse(s string) (int, api.Errno) {
	if s == "" {
		return 0, api.OK
	}
	names := Names()
	set, last := 0, -1
	for more := true; more; {
		var name string
		name, s, more = strings.Cut(s, ",")
		bit := slices.Index(names, name)
		if bit < 0 {
			return 0, api.ErrNone
		}
		if bit <= last {
			return 0, api.ErrForm
		}
		set |= 1 << bit
		last = bit
	}
	return set, api.OK
}

// Words writes n as two words.
func Words(n int) [2]int {
	return [2]int{n&half | lowMark, n>>halfBits&half | highMark}
}

// FromWords reads what Words writes, and nothing else.
func FromWords(w [2]int) (int, api.Errno) {
	if w[0]&^half != lowMark || w[1]&^half != highMark {
		return 0, api.ErrForm
	}
	return w[0]&half | w[1]&half<<halfBits, api.OK
}
