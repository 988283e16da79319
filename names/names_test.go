package names

import (
	"iter"
	"regexp"
	"slices"
	"strings"
	"testing"
)

// These say the chapter's words once more, in another way than the code does.
var (
	nameForm = regexp.MustCompile(`\A[a-z][a-z0-9-]{0,15}\z`)
	hostForm = regexp.MustCompile(`\A[a-z][a-z0-9-]{0,15}(\.[a-z][a-z0-9-]{0,15})*\z`)
	pathForm = regexp.MustCompile(`\A/[a-z0-9/-]{0,31}\z`)
)

func isName(s string) bool { return nameForm.MatchString(s) }

func isHost(s string) bool { return len(s) <= 32 && hostForm.MatchString(s) }

func isPattern(s string) bool {
	return s == "*" || isHost(s) || len(s) > 2 && s[:2] == "*." && isHost(s[2:])
}

func isPath(s string) bool { return pathForm.MatchString(s) }

// is holds what is told of s against want: those of the words name, host, pattern and path that it is, "" if none.
func is(t *testing.T, s, want string) {
	t.Helper()
	words := strings.Fields(want)
	for _, x := range []struct {
		word string
		got  bool
	}{{"name", Name(s)}, {"host", Host(s)}, {"pattern", Pattern(s)}, {"path", Path(s)}} {
		if x.got != slices.Contains(words, x.word) {
			t.Errorf("P3.2: %q: %s: %t", s, x.word, x.got)
		}
	}
}

// formed holds all that is told of s against the forms.
func formed(t *testing.T, s string) {
	t.Helper()
	if Name(s) != isName(s) || Host(s) != isHost(s) || Pattern(s) != isPattern(s) || Path(s) != isPath(s) {
		t.Errorf("P3.2: %q: Name %t, Host %t, Pattern %t, Path %t; want %t, %t, %t, %t", s, Name(s), Host(s), Pattern(s), Path(s), isName(s), isHost(s), isPattern(s), isPath(s))
	}
}

// texts are all texts of at most so many bytes, each of them one of those of from.
func texts(from string, most int) iter.Seq[string] {
	return func(yield func(string) bool) {
		for l := []string{""}; len(l) > 0; l = l[1:] {
			if !yield(l[0]) {
				return
			}
			if len(l[0]) == most {
				continue
			}
			for i := range len(from) {
				l = append(l, l[0]+from[i:i+1])
			}
		}
	}
}

// of is a text of n bytes, which are those of s, again and again.
func of(s string, n int) string { return strings.Repeat(s, n)[:n] }

// TestOrdinary is P3.2, of texts as they are asked for every day.
func TestOrdinary(t *testing.T) {
	is(t, "web", "name host pattern")
	is(t, "web-2", "name host pattern")
	is(t, "a--b-", "name host pattern")
	is(t, "x0", "name host pattern")
	is(t, "a.b", "host pattern")
	is(t, "www.example.org", "host pattern")
	is(t, "a1.b-2.c", "host pattern")
	is(t, "*.example.org", "pattern")
	is(t, "*.b", "pattern")
	is(t, "/index", "path")
	is(t, "/a/b/c", "path")
	is(t, "/a-1/2/", "path")
}

// TestEdges is P3.2, of the texts that the chapter's words draw a line at.
func TestEdges(t *testing.T) {
	is(t, "", "")
	is(t, "a", "name host pattern")
	is(t, "z", "name host pattern")
	is(t, "0", "")
	is(t, "-", "")
	is(t, "1a", "")
	is(t, "-a", "")
	is(t, "a.1b", "")
	is(t, "a.-b", "")
	is(t, "a-.b-", "host pattern")
	is(t, ".", "")
	is(t, "..", "")
	is(t, ".a", "")
	is(t, "a.", "")
	is(t, "a..b", "")
	is(t, "*", "pattern")
	is(t, "**", "")
	is(t, "*.", "")
	is(t, "*a", "")
	is(t, "a*", "")
	is(t, "a.*", "")
	is(t, "a.*.b", "")
	is(t, "*.*", "")
	is(t, "*.*.a", "")
	is(t, "**.a", "")
	is(t, "*..a", "")
	is(t, "*.a.", "")
	is(t, "*.a..b", "")
	is(t, "*.0", "")
	is(t, "*/a", "")
	is(t, "/", "path")
	is(t, "//", "path")
	is(t, "/0", "path")
	is(t, "/-", "path")
	is(t, "a/", "")
	is(t, "a/b", "")
	is(t, "*/", "")
	is(t, "/*", "")
	is(t, "/.", "")
	is(t, "/a.b", "")
	is(t, "/_", "")
}

// TestWrong is P3.2, of bytes that are in no name, host, pattern or path.
func TestWrong(t *testing.T) {
	for _, s := range []string{"A", "aB", "Web", "a.B", "*.A", "*.a.bC", "/A", "/aB", " ", " a", "a ", "a b", "a_b", "a\n", "\na", "/\n", "/a\n", "a.b\n", "a:80", "/a?b", "/a%20", "\x00", "a\x00", "/\x00", "*.a\x00", "é", "aé", "a.é", "*.é", "/é", "a\xff", "\xff", "/\x80", "a\x80", "\uff41", "/\u2215", "a\u3002b"} {
		is(t, s, "")
	}
}

// TestLengths is P3.2, of the lengths that are bounded, and those beside them.
func TestLengths(t *testing.T) {
	for _, s := range []string{"a", "a0", "a-", "az0-9"} {
		is(t, of(s, 1), "name host pattern")
		is(t, of(s, 15), "name host pattern")
		is(t, of(s, 16), "name host pattern")
		is(t, of(s, 17), "")
		is(t, of(s, 32), "")
		is(t, of(s, 33), "")
		is(t, "/"+of(s, 15), "path")
		is(t, "/"+of(s, 16), "path")
		is(t, "/"+of(s, 30), "path")
		is(t, "/"+of(s, 31), "path")
		is(t, "/"+of(s, 32), "")
		is(t, "/"+of(s, 1000), "")
		is(t, "b."+of(s, 16), "host pattern")
		is(t, "b."+of(s, 17), "")
		is(t, of(s, 16)+".b", "host pattern")
		is(t, of(s, 17)+".b", "")
		is(t, of(s, 15)+"."+of(s, 16), "host pattern")
		is(t, of(s, 16)+"."+of(s, 15), "host pattern")
		is(t, of(s, 16)+"."+of(s, 16), "")
		is(t, "*."+of(s, 16), "pattern")
		is(t, "*."+of(s, 17), "")
		is(t, "*."+of(s, 13)+"."+of(s, 16), "pattern") // 32 bytes in all
		is(t, "*."+of(s, 14)+"."+of(s, 16), "pattern") // 33 in all
		is(t, "*."+of(s, 15)+"."+of(s, 16), "pattern") // 34 in all, 32 of them a host's
		is(t, "*."+of(s, 16)+"."+of(s, 16), "")
	}
	is(t, of("/", 32), "path")
	is(t, of("/", 33), "")
	is(t, of("a.", 31), "host pattern")
	is(t, of("a.", 32), "")
	is(t, of("a.", 33), "")
	is(t, "*."+of("a.", 31), "pattern")
	is(t, "*."+of("a.", 33), "")
	is(t, of("abcde.", 32), "host pattern")
	is(t, of("abcd.", 33), "")
	is(t, of("*", 32), "")
}

// TestShort is P3.2: all short texts of the bytes that the chapter speaks of, and of some beside them.
func TestShort(t *testing.T) {
	for s := range texts("az09-.*/A", 5) {
		formed(t, s)
	}
}

// TestAllBytes is P3.2: each byte there is, by itself and at each place of texts of each kind.
func TestAllBytes(t *testing.T) {
	for b := range 256 {
		c := string([]byte{byte(b)})
		formed(t, c)
		for d := range 256 {
			formed(t, c+string([]byte{byte(d)}))
		}
		for _, s := range []string{"abcdefghijklmnop", "abcdefghijklmno.abcdefghijklmnop", "*.ab.c0.d-", "/abcdefghijklmnopqrstuvwxyz-0/9/"} {
			for i := range len(s) {
				formed(t, s[:i]+c+s[i+1:])
			}
		}
	}
}

// TestAllLengths is P3.2: texts of each length to far beyond all limits.
func TestAllLengths(t *testing.T) {
	for n := range 100 {
		for _, s := range []string{"a", "a.", "/", "/a", "ab.c", "*.", "a-0", "abcdefghijklmno."} {
			formed(t, of(s, n))
			formed(t, "*"+of(s, n))
			formed(t, "*."+of(s, n))
			formed(t, "/"+of(s, n))
		}
	}
}

// TestParts is P3.1, by lists that are written out.
func TestParts(t *testing.T) {
	for _, x := range []struct {
		s    string
		by   byte
		want []string
	}{
		{"", '.', []string{""}},
		{"", 0, []string{""}},
		{"a", '.', []string{"a"}},
		{"abc", '.', []string{"abc"}},
		{"a/b", '.', []string{"a/b"}},
		{".", '.', []string{"", ""}},
		{"..", '.', []string{"", "", ""}},
		{"...", '.', []string{"", "", "", ""}},
		{"a.b", '.', []string{"a", "b"}},
		{"ab.cd.ef", '.', []string{"ab", "cd", "ef"}},
		{".a", '.', []string{"", "a"}},
		{"a.", '.', []string{"a", ""}},
		{"a..b", '.', []string{"a", "", "b"}},
		{"..a", '.', []string{"", "", "a"}},
		{"a..", '.', []string{"a", "", ""}},
		{"/a/b/", '/', []string{"", "a", "b", ""}},
		{"a.b", 'a', []string{"", ".b"}},
		{"aaa", 'a', []string{"", "", "", ""}},
		{"aAa", 'A', []string{"a", "a"}},
		{"a\x00b", 0, []string{"a", "b"}},
		{"a\xffb\xff", 255, []string{"a", "b", ""}},
		{"a\xffb", 254, []string{"a\xffb"}},
		{"é", 0xc3, []string{"", "\xa9"}}, // of bytes, though they lie within a rune
		{"é", 0xa9, []string{"\xc3", ""}},
		{"é", 0xe9, []string{"é"}}, // the rune's number is no byte of it
		{"\ufffd", 0xff, []string{"\ufffd"}},
		{"\xff", 0xfd, []string{"\xff"}},
	} {
		if l := Parts(x.s, x.by); !slices.Equal(l, x.want) {
			t.Errorf("P3.1: Parts(%q, %q) = %q; want %q", x.s, x.by, l, x.want)
		}
	}
}

// together is P3.3 of s and by, and P3.1: the parts have no such byte, are one more than there are, and with it between them are s.
func together(t *testing.T, s string, by byte) {
	t.Helper()
	between := string([]byte{by})
	l := Parts(s, by)
	if len(l) != strings.Count(s, between)+1 {
		t.Errorf("P3.1: Parts(%q, %q) are %d", s, by, len(l))
	}
	for _, part := range l {
		if strings.Contains(part, between) {
			t.Errorf("P3.1: Parts(%q, %q) has %q", s, by, part)
		}
	}
	if strings.Join(l, between) != s {
		t.Errorf("P3.3: Parts(%q, %q) = %q, which is another text", s, by, l)
	}
}

// TestTogether is P3.1 and P3.3, of all short texts, and of each byte there is.
func TestTogether(t *testing.T) {
	for s := range texts("a./\xff", 6) {
		for _, by := range []byte{'a', '.', '/', 255, 'b', 0} {
			together(t, s, by)
		}
	}
	for b := range 256 {
		by := string([]byte{byte(b)})
		for _, s := range []string{"", by, by + by, "x" + by + "y", by + "é" + by, "the host a.b/c-0 of \x00\x80\xff"} {
			together(t, s, byte(b))
		}
	}
}

// TestManyParts is P3.1 and R1: a long text comes to its end, whether it has many parts or one.
func TestManyParts(t *testing.T) {
	for _, s := range []string{of(".", 1<<20), of("a.", 1<<20), of("a", 1<<20)} {
		together(t, s, '.')
	}
}

// TestPartsApart is R2: what came out is not changed later, and is nothing that another call tells.
func TestPartsApart(t *testing.T) {
	s := "a.b.c"
	l := Parts(s, '.')
	l[0], l[1] = "x", "y"
	_ = append(l[:2], "z")
	if again := Parts(s, '.'); !slices.Equal(again, []string{"a", "b", "c"}) || !slices.Equal(l, []string{"x", "y", "z"}) || s != "a.b.c" {
		t.Errorf("R2: Parts(%q) = %q behind a write to what came out ahead", s, again)
	}
}

// TestStops is P3.2's way: a host is refused at its first wrong part, and whoever asks for parts may end there, and ask again.
func TestStops(t *testing.T) {
	parts := each("a.b.c", '.')
	for range 2 {
		var l []string
		for part := range parts {
			if l = append(l, part); len(l) == 2 {
				break
			}
		}
		if !slices.Equal(l, []string{"a", "b"}) {
			t.Errorf("P3.1: the first two parts are %q", l)
		}
	}
}

// TestKinds is P3.3: a host is a pattern, and no path is; a name is a host, and no `*` is in a host.
func TestKinds(t *testing.T) {
	var hosts, paths int
	for s := range texts("a0-.*/", 6) {
		if Host(s) {
			hosts++
		}
		if Path(s) {
			paths++
		}
		if Host(s) && !Pattern(s) {
			t.Errorf("P3.3: the host %q is no pattern", s)
		}
		if Path(s) && (Pattern(s) || Host(s) || Name(s)) {
			t.Errorf("P3.3: the path %q is a pattern, a host or a name", s)
		}
		if Name(s) && !Host(s) || Host(s) && strings.Contains(s, "*") {
			t.Errorf("P3.2: %q: Name %t, Host %t", s, Name(s), Host(s))
		}
	}
	// 0 of either one would make the rest of this test idle.
	if hosts == 0 || paths == 0 {
		t.Errorf("P3.3: %d hosts and %d paths", hosts, paths)
	}
	for _, s := range []string{of("a", 16), of("a.", 31), of("a", 16) + "." + of("b", 15)} {
		if !Host(s) || !Pattern(s) || !Pattern("*."+s) {
			t.Errorf("P3.3: the host %q: Host %t, Pattern %t", s, Host(s), Pattern(s))
		}
	}
}
