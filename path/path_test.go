package path

import (
	"slices"
	"strings"
	"testing"

	"ringfence/api"
)

const nameBytes = "abcdefghijklmnopqrstuvwxyz0123456789._"

func TestNames(t *testing.T) {
	for _, s := range []string{"a", "z", "0", "9", "_", "...", "....", ".a", "a.", "..a", "a..", "._", "_.", "a_1.x", "abcdefghijkl", "............", "____________"} {
		if !Name(s) {
			t.Errorf("Name(%q) is false", s)
		}
	}
}

func TestNoNames(t *testing.T) {
	for _, s := range []string{"", ".", "..", "/", "a/", "/a", "a/b", "A", "aB", "a b", " a", "a ", "a-b", "a\x00", "\x00", "\xff", "a\n", "é", "aé", "ａ", "٣", "abcdefghijklm", ".............", strings.Repeat("a", 1<<20)} {
		if Name(s) {
			t.Errorf("Name(%q) is true", s)
		}
	}
}

// Every byte, at every place of a name of every length.
func TestNameByBytes(t *testing.T) {
	for size := 1; size <= api.MaxName+2; size++ {
		for at := range size {
			for b := range 256 {
				text := []byte(strings.Repeat("a", size))
				text[at] = byte(b)
				s := string(text)
				want := size <= api.MaxName && strings.IndexByte(nameBytes, byte(b)) >= 0 && s != "."
				if Name(s) != want {
					t.Fatalf("Name(%q) is %v", s, !want)
				}
			}
		}
	}
}

func wantSplit(t *testing.T, s string, parts []string, root bool, err api.Errno) {
	t.Helper()
	l, r, e := Split(s)
	if !slices.Equal(l, parts) || r != root || e != err {
		t.Errorf("Split(%q) is %q, %v, %d, not %q, %v, %d", s, l, r, e, parts, root, err)
	}
}

func TestSplit(t *testing.T) {
	for _, c := range []struct {
		s     string
		root  bool
		parts []string
	}{
		{"/a//./b/../c", true, []string{"a", "b", "..", "c"}},
		{"a", false, []string{"a"}},
		{"/a", true, []string{"a"}},
		{"a/", false, []string{"a"}},
		{"a//b/", false, []string{"a", "b"}},
		{"./a", false, []string{"a"}},
		{"a/.", false, []string{"a"}},
		{"a/b/a/b", false, []string{"a", "b", "a", "b"}},
		{"/", true, nil},
		{"///", true, nil},
		{"/.", true, nil},
		{".", false, nil},
		{"./", false, nil},
		{"./.", false, nil},
		{".//a", false, []string{"a"}},
		{"..", false, []string{".."}},
		{"../..", false, []string{"..", ".."}},
		{"/..", true, []string{".."}},
		{"a/..", false, []string{"a", ".."}},
		{"...", false, []string{"..."}},
		{".../..../.a", false, []string{"...", "....", ".a"}},
		{"abcdefghijkl/0123456789._", false, []string{"abcdefghijkl", "0123456789._"}},
	} {
		wantSplit(t, c.s, c.parts, c.root, api.OK)
	}
}

func TestSplitOfNoNames(t *testing.T) {
	for _, s := range []string{"A", "/A", "a/B", "A/b", "a b", "../a/ ", "a/b/c-d", "\x00", "a/\xff", "/é", `a\b`, "abcdefghijklm", "a/abcdefghijklm/b", "/............."} {
		wantSplit(t, s, nil, false, api.ErrName)
	}
}

func TestSplitOfNothing(t *testing.T) { wantSplit(t, "", nil, false, api.ErrForm) }

func TestSplitOfMuch(t *testing.T) {
	half := api.MaxPath / 2
	thirty := slices.Repeat([]string{"a"}, half)
	wantSplit(t, strings.Repeat("a/", half), thirty, false, api.OK)
	wantSplit(t, strings.Repeat("/a", half), thirty, true, api.OK)
	wantSplit(t, strings.Repeat("/", api.MaxPath), nil, true, api.OK)
	for _, s := range []string{
		strings.Repeat("a/", half) + "b",
		strings.Repeat("/a", half) + "/",
		strings.Repeat("/", api.MaxPath+1),
		// Bytes are counted, and what would be no name is not told any more.
		strings.Repeat("A", api.MaxPath+1),
		strings.Repeat("é", half+1),
		strings.Repeat("a/", 1<<20),
	} {
		wantSplit(t, s, nil, false, api.ErrMuch)
	}
	wantSplit(t, strings.Repeat("A", api.MaxPath), nil, false, api.ErrName)
	wantSplit(t, strings.Repeat("é", half), nil, false, api.ErrName)
}

// splitByBytes goes byte by byte, by another way than the program's.
func splitByBytes(s string) (parts []string, fine bool) {
	part := ""
	for at := 0; at <= len(s); at++ {
		if at < len(s) && s[at] != '/' {
			part += s[at : at+1]
			continue
		}
		switch {
		case part == "..":
			parts = append(parts, part)
		case len(part) > api.MaxName || strings.Trim(part, nameBytes) != "":
			return nil, false
		case part != "" && part != ".":
			parts = append(parts, part)
		}
		part = ""
	}
	return parts, true
}

// everyText hands on each text of 1 to size of these bytes.
func everyText(bytes string, size int, of func(string)) {
	var longer func(string)
	longer = func(s string) {
		for at := range len(bytes) {
			next := s + bytes[at:at+1]
			of(next)
			if len(next) < size {
				longer(next)
			}
		}
	}
	longer("")
}

func TestSplitOfEveryShortText(t *testing.T) {
	everyText("a./_A", 7, func(s string) {
		parts, fine := splitByBytes(s)
		if !fine {
			wantSplit(t, s, nil, false, api.ErrName)
			return
		}
		wantSplit(t, s, parts, s[0] == '/', api.OK)
	})
}

func TestJoin(t *testing.T) {
	for _, c := range []struct {
		l             []string
		beneath, root string
	}{
		{nil, ".", "/"},
		{[]string{}, ".", "/"},
		{[]string{"a"}, "a", "/a"},
		{[]string{".."}, "..", "/.."},
		{[]string{"a", "b"}, "a/b", "/a/b"},
		{[]string{"..", "a", "..", "c"}, "../a/../c", "/../a/../c"},
		// What Split would not answer is put together all the same.
		{[]string{"."}, ".", "/."},
		{[]string{"A b", "c/d"}, "A b/c/d", "/A b/c/d"},
		{[]string{"a", "", "b"}, "a//b", "/a//b"},
		{[]string{""}, "", "/"},
		{[]string{"", ""}, "/", "//"},
	} {
		if got := Join(c.l, false); got != c.beneath {
			t.Errorf("Join(%q, false) is %q, not %q", c.l, got, c.beneath)
		}
		if got := Join(c.l, true); got != c.root {
			t.Errorf("Join(%q, true) is %q, not %q", c.l, got, c.root)
		}
	}
}

// What Split answers, joined, leads the same way again, and is no longer than it was.
func TestJoinOfSplit(t *testing.T) {
	everyText("a./", 8, func(s string) {
		l, root, _ := Split(s)
		joined := Join(l, root)
		wantSplit(t, joined, l, root, api.OK)
		if len(joined) > len(s) {
			t.Errorf("%q, joined, is %q", s, joined)
		}
	})
}

func TestDepth(t *testing.T) {
	for _, c := range []struct {
		parts string
		want  int
	}{
		{"", 0},
		{"a", 0},
		{"a b c", 0},
		{"..", 1},
		{".. .. ..", 3},
		{"a ..", 0},
		{".. a", 1},
		{"a .. ..", 1},
		{"a b .. .. ..", 1},
		{".. a ..", 1},
		{".. a .. ..", 2},
		{".. .. a b c", 2},
		{".. .. a b c .. .. ..", 2},
		{".. .. a b c .. .. .. ..", 3},
		{"a b c ..", 0},
		// Each one that is not `..` goes down, whatever it is.
		{". ..", 0},
		{"... .. ..", 1},
		{"../.. .. ..", 1},
		{"A .. ..", 1},
	} {
		if got := Depth(strings.Fields(c.parts)); got != c.want {
			t.Errorf("Depth of %q is %d, not %d", c.parts, got, c.want)
		}
	}
	if got := Depth([]string{"", "..", ".."}); got != 1 {
		t.Errorf("Depth with an empty part is %d, not 1", got)
	}
	if got := Depth(nil); got != 0 {
		t.Errorf("Depth(nil) is %d", got)
	}
}

// depthOfBeginnings counts both kinds anew for each beginning of the list.
func depthOfBeginnings(l []string) int {
	most := 0
	for end := range len(l) + 1 {
		ups := 0
		for _, part := range l[:end] {
			if part == ".." {
				ups++
			}
		}
		most = max(most, 2*ups-end)
	}
	return most
}

func TestDepthOfEveryShortList(t *testing.T) {
	everyText("au", 12, func(s string) {
		var l []string
		for at := range len(s) {
			if s[at] == 'u' {
				l = append(l, "..")
			} else {
				l = append(l, "a")
			}
		}
		if got, want := Depth(l), depthOfBeginnings(l); got != want {
			t.Errorf("Depth(%q) is %d, not %d", l, got, want)
		}
	})
}

func TestMuchIsFine(t *testing.T) {
	const n = 1 << 20
	l := slices.Concat(slices.Repeat([]string{"a"}, n), slices.Repeat([]string{".."}, 2*n))
	if got := Depth(l); got != n {
		t.Errorf("Depth of a long list is %d, not %d", got, n)
	}
	if got, want := Join(l, true), strings.Repeat("/a", n)+strings.Repeat("/..", 2*n); got != want {
		t.Error("Join of a long list is another one")
	}
}

func TestHandedInIsOnlyRead(t *testing.T) {
	room := []string{"a", "..", "..", "..", "b"}
	l, before := room[:3], slices.Clone(room)
	if got := Depth(l); got != 1 {
		t.Errorf("Depth(%q) is %d, with spare room behind it", l, got)
	}
	joined := Join(l, false) + Join(l, true) + Join(room[:0], false)
	if joined != "a/../../a/../..." {
		t.Errorf("Join, with spare room behind the list, answers %q in all", joined)
	}
	if !slices.Equal(room, before) {
		t.Errorf("what was handed in is %q", room)
	}
}

func TestAnswersAreNew(t *testing.T) {
	const s = "/a/../b/c/d"
	first, _, _ := Split(s)
	for at := range first[:cap(first)] {
		first[:cap(first)][at] = "x"
	}
	wantSplit(t, s, []string{"a", "..", "b", "c", "d"}, true, api.OK)
}
