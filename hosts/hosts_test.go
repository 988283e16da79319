package hosts

import (
	"regexp"
	"slices"
	"strings"
	"testing"
)

// These say chapter 3's words once more, in another way than the code of names does.
var (
	hostForm = regexp.MustCompile(`\A[a-z][a-z0-9-]{0,15}(\.[a-z][a-z0-9-]{0,15})*\z`)
	pathForm = regexp.MustCompile(`\A/[a-z0-9/-]{0,31}\z`)
)

func isHost(s string) bool { return len(s) <= 32 && hostForm.MatchString(s) }

func isTailed(s string) bool { return len(s) > 2 && s[:2] == "*." && isHost(s[2:]) }

func isPattern(s string) bool { return s == "*" || isHost(s) || isTailed(s) }

func isPath(s string) bool { return pathForm.MatchString(s) }

// meant is P4.1, told by a host's names from its end, where the code goes by bytes.
func meant(pattern, host string) bool {
	if !isPattern(pattern) || !isHost(host) {
		return false
	}
	p, h := strings.Split(pattern, "."), strings.Split(host, ".")
	switch {
	case pattern == "*":
		return true
	case p[0] != "*":
		return slices.Equal(p, h)
	}
	tail := p[1:]
	return len(h) > len(tail) && slices.Equal(h[len(h)-len(tail):], tail)
}

// below is P4.2, told by where top may end in path.
func below(path, top string) bool {
	if !isPath(path) || !isPath(top) || len(top) > len(path) {
		return false
	}
	ends := len(top) == len(path) || top[len(top)-1] == '/' || path[len(top)] == '/'
	return ends && path[:len(top)] == top
}

// weighed is P4.3's Weight.
func weighed(pattern string) int {
	if isHost(pattern) {
		return 100
	}
	if isTailed(pattern) {
		return len(pattern) - 2
	}
	return 0
}

// texts are all texts of at most so many bytes, each of them one of those of from.
func texts(from string, most int) []string {
	l := []string{""}
	for i := 0; i < len(l); i++ {
		if len(l[i]) == most {
			continue
		}
		for k := range len(from) {
			l = append(l, l[i]+from[k:k+1])
		}
	}
	return l
}

// of is a text of n bytes, which are those of s, again and again.
func of(s string, n int) string { return strings.Repeat(s, n)[:n] }

// host32 is a host of just 32 bytes, one of whose names has 16.
func host32() string { return of("abcdefghijklmno", 15) + "." + of("pqrstuvwxyz0123-", 16) }

func match(t *testing.T, pattern, host string, want bool) {
	t.Helper()
	if Match(pattern, host) != want {
		t.Errorf("P4.1: Match(%q, %q) is not %t", pattern, host, want)
	}
}

func under(t *testing.T, path, top string, want bool) {
	t.Helper()
	if Under(path, top) != want {
		t.Errorf("P4.2: Under(%q, %q) is not %t", path, top, want)
	}
}

func weight(t *testing.T, pattern string, want int) {
	t.Helper()
	if w := Weight(pattern); w != want {
		t.Errorf("P4.3: Weight(%q) = %d; want %d", pattern, w, want)
	}
}

func better(t *testing.T, pattern, path, otherPattern, otherPath string, want bool) {
	t.Helper()
	if Better(pattern, path, otherPattern, otherPath) != want {
		t.Errorf("P4.3: Better(%q, %q, %q, %q) is not %t", pattern, path, otherPattern, otherPath, want)
	}
}

// wrongs are texts that are no pattern, no host and no path.
func wrongs() []string {
	return []string{
		"", " ", "A", "aB", "a.B", "*.B", "*.a.bC", "/A", "/aB",
		".", "..", ".a", "a.", "a..b", "*.", "*..", "**", "*a", "a*", "*.*", "*.*.a", "*.a.", "*..a", "a.*", "a.*.b", "*a.b",
		"0", "-", "1a", "-a", "a.1b", "*.0", "a_b", "a b", "a:80", "a/", "a/b", "*/", "/*", "/.", "/a.b", "/_", "/a?b",
		"a\n", "a.b\n", "*\n", "*.b\n", "/\n", "/a\n", "\x00", "a\x00", "/\x00",
		"é", "a.é", "*.é", "/é", "a\xff", "*.a\xff", "/\xff", "a\x80", "/\x80", "\uff41", "/\u2215",
		of("a", 17), of("b", 17) + ".a", "a." + of("b", 17), "*." + of("b", 17), of("a.", 33), "*." + of("a.", 33), "a" + host32(), of("a", 16) + "." + of("a", 16),
		"/" + of("a", 32), of("/", 33), "/" + of("a", 1<<20), of("a", 1<<20), of("a.", 1<<20+1), "*." + of("a.", 1<<20+1),
	}
}

// TestMatchAll is P4.1 of `*`: it means whatever is a host, and nothing else.
func TestMatchAll(t *testing.T) {
	for _, host := range []string{"a", "z", "web", "web-2", "a.b", "www.example.org", of("a", 16), of("a.", 31), host32()} {
		match(t, "*", host, true)
	}
	for _, host := range []string{"*", "*.b", "/", "/a"} {
		match(t, "*", host, false)
	}
}

// TestMatchHost is P4.1 of a pattern that is a host: it means just that one.
func TestMatchHost(t *testing.T) {
	for _, host := range []string{"a", "a.b", "www.example.org", "a-.b-", of("a", 16), of("a.", 31), host32()} {
		match(t, host, host, true)
		match(t, host, host+"x", false)
		match(t, host, "x"+host, false)
		match(t, host, "x."+host, false)
		match(t, host, host+".x", false)
		match(t, host, host[:len(host)-1], false)
		match(t, host, host[1:], false)
		match(t, host, "", false)
		match(t, host, "*", false)
		match(t, host, "*."+host, false)
	}
	match(t, "a.b", "a", false)
	match(t, "a.b", "b", false)
	match(t, "a.b", "b.a", false)
	match(t, "a.b", "a-b", false)
	match(t, "a.b", "axb", false)
	match(t, "b", "a.b", false)
	match(t, "a", "a.b", false)
}

// TestMatchTail is P4.1 of `*.` and a tail: something is ahead of the tail, and a `.` between them.
func TestMatchTail(t *testing.T) {
	match(t, "*.b", "a.b", true)
	match(t, "*.b", "c.a.b", true)
	match(t, "*.b", "b.b", true)
	match(t, "*.b", "b.b.b", true)
	match(t, "*.b", "a-.b", true)
	match(t, "*.b", "b", false)
	match(t, "*.b", "ab", false)
	match(t, "*.b", ".b", false)
	match(t, "*.b", "..b", false)
	match(t, "*.b", "a..b", false)
	match(t, "*.b", ".a.b", false)
	match(t, "*.b", "1.b", false)
	match(t, "*.b", "", false)
	match(t, "*.b", ".", false)
	match(t, "*.b", "*", false)
	match(t, "*.b", "*.b", false)
	match(t, "*.b", "a.bb", false)
	match(t, "*.b", "a.ab", false)
	match(t, "*.b", "a.b.c", false)
	match(t, "*.b", "b.a", false)
	match(t, "*.b", "a.B", false)
	match(t, "*.b", "A.b", false)
	match(t, "*.b", "a.b.", false)
	match(t, "*.b", "a/b", false)
}

// TestMatchLongTail is P4.1 of tails of several names.
func TestMatchLongTail(t *testing.T) {
	match(t, "*.a.b", "c.a.b", true)
	match(t, "*.a.b", "d.c.a.b", true)
	match(t, "*.a.b", "a.a.b", true)
	match(t, "*.a.b", "a.b.a.b", true)
	match(t, "*.a.b", "a.b", false)
	match(t, "*.a.b", ".a.b", false)
	match(t, "*.a.b", "ca.b", false)
	match(t, "*.a.b", "c.b", false)
	match(t, "*.a.b", "b", false)
	match(t, "*.a.b", "a.c.b", false)
	match(t, "*.a.b", "c.a-b", false)
	match(t, "*.a.b", "c.axb", false)
	match(t, "*.example.org", "www.example.org", true)
	match(t, "*.example.org", "a.www.example.org", true)
	match(t, "*.example.org", "example.org", false)
	match(t, "*.example.org", "my-example.org", false)
	match(t, "*.example.org", "www.example.com", false)
	match(t, "*.a.b.c.d", "e.a.b.c.d", true)
	match(t, "*.a.b.c.d", "a.b.c.d", false)
}

// TestMatchLengths is P4.1, of hosts of just 32 bytes, and of a byte more.
func TestMatchLengths(t *testing.T) {
	h := host32()
	name := h[len(h)-16:]
	match(t, "*."+name, h, true)
	match(t, "*."+name, "a"+h, false)
	match(t, "*."+name, name, false)
	match(t, "*."+name[1:], h, false)
	match(t, "*."+of("b.", 29), "ab."+of("b.", 29), true) // 32 bytes
	match(t, "*."+of("b.", 29), "abc."+of("b.", 29), false)
	match(t, "*."+of("b.", 31), of("b.", 31), false)
	match(t, "*."+of("b.", 31), "a."+of("b.", 31), false) // 33 bytes
	match(t, "*."+h, h, false)
	match(t, "*."+h, "a."+h, false)
	match(t, "*", "a"+h, false)
	match(t, "*", "a."+of("b.", 31), false)
}

// TestMatchWrong is P4.1 of texts that are no pattern, or no host: they mean nothing, and are not meant, not even by themselves.
func TestMatchWrong(t *testing.T) {
	for _, s := range wrongs() {
		match(t, s, s, false)
		for _, x := range []string{"a", "a.b", "c.a.b", "b", "", host32()} {
			match(t, s, x, false)
		}
		for _, x := range []string{"*", "*.b", "*.a.b", "a", "a.b", "", "*." + host32()} {
			match(t, x, s, false)
		}
		match(t, "*."+s, "a."+s, false)
		match(t, "*"+s, "a"+s, meant("*"+s, "a"+s)) // of some of them `*` makes a pattern
	}
	match(t, "*b", "ab", false)
	match(t, "*b", "a.b", false)
	match(t, ".b", "a.b", false)
	match(t, "a*", "ab", false)
	match(t, "a.*", "a.b", false)
	match(t, "**", "a", false)
	match(t, "*.*", "a.b", false)
	match(t, "*.*.b", "c.a.b", false)
	match(t, "/", "/", false)
	match(t, "/a", "/a", false)
}

// TestMatchShort is P4.1: all pairs of short texts.
func TestMatchShort(t *testing.T) {
	l := append(texts("ab.*", 4), "*.a.b", "*.b.b", "b.a.b", "a.b.a.b", "a.a.a", "*.a.a", "aa.a.b", "*aa.b", "A.b", "b.\xff")
	for _, p := range l {
		for _, h := range l {
			match(t, p, h, meant(p, h))
		}
	}
}

// TestAllBytes is P4.1 to P4.3: each byte there is, at each place of texts of each kind.
func TestAllBytes(t *testing.T) {
	for b := range 256 {
		c := string([]byte{byte(b)})
		for _, s := range []string{"ab.c-0", "*.b-.c0", host32(), "*"} {
			for i := range len(s) {
				x := s[:i] + c + s[i+1:]
				for _, y := range []string{"*", "*.c-0", "a.b-.c0", s, x} {
					match(t, x, y, meant(x, y))
					match(t, y, x, meant(y, x))
				}
				weight(t, x, weighed(x))
			}
		}
		for _, s := range []string{"/ab/0-", "/a", "/", "/a/"} {
			for i := range len(s) {
				x := s[:i] + c + s[i+1:]
				for _, y := range []string{"/", "/a", "/ab", "/ab/0-/c", s, x} {
					under(t, x, y, below(x, y))
					under(t, y, x, below(y, x))
				}
			}
			under(t, s+c, s, below(s+c, s))
		}
	}
}

// TestUnder is P4.2: of a path that is top, one that begins with it, and one that does not.
func TestUnder(t *testing.T) {
	under(t, "/a", "/a", true)
	under(t, "/a/b", "/a/b", true)
	under(t, "/a/", "/a/", true)
	under(t, "/a/b", "/a", true)
	under(t, "/a/b/c", "/a", true)
	under(t, "/a/b/c", "/a/b", true)
	under(t, "/a/", "/a", true)
	under(t, "/a//", "/a", true)
	under(t, "/a//b", "/a", true)
	under(t, "/ab", "/a", false)
	under(t, "/ab/c", "/a", false)
	under(t, "/a-", "/a", false)
	under(t, "/a0", "/a", false)
	under(t, "/aa", "/a", false)
	under(t, "/a/bc", "/a/b", false)
	under(t, "/a", "/b", false)
	under(t, "/a", "/a/b", false)
	under(t, "/", "/a", false)
	under(t, "/b/a", "/a", false)
	under(t, "/b/a/", "/a/", false)
	under(t, "//a", "/a", false)
}

// TestUnderSlash is P4.2, of tops that end with `/`, and of `/` alone.
func TestUnderSlash(t *testing.T) {
	under(t, "/a/b", "/a/", true)
	under(t, "/a/b/c", "/a/", true)
	under(t, "/a//", "/a/", true)
	under(t, "/a", "/a/", false)
	under(t, "/ab", "/a/", false)
	under(t, "/ab/", "/a/", false)
	under(t, "/a/b", "/a//", false)
	under(t, "/a//b", "/a//", true)
	under(t, "/", "/", true)
	under(t, "/a", "/", true)
	under(t, "/ab/c", "/", true)
	under(t, "/-", "/", true)
	under(t, "//", "/", true)
	under(t, "//a", "/", true)
	under(t, "/", "//", false)
	under(t, "/a", "//", false)
	under(t, "//a", "//", true)
	under(t, "///", "//", true)
}

// TestUnderLengths is P4.2, of paths of just 32 bytes, and of a byte more.
func TestUnderLengths(t *testing.T) {
	long := "/" + of("a/b-", 31)
	for n := 1; n <= 32; n++ {
		under(t, long, long[:n], below(long, long[:n]))
	}
	under(t, long, long, true)
	under(t, long, "/a", true)
	under(t, long, long[:31], true)  // it ends with a `/`
	under(t, long, long[:30], true)  // a `/` is behind it
	under(t, long, long[:29], false) // neither
	under(t, long+"c", "/a", false)
	under(t, long+"c", "/", false)
	under(t, long+"c", long+"c", false)
	under(t, long+"/", long, false)
	under(t, long, long+"/", false)
	under(t, of("/", 32), of("/", 31), true)
	under(t, of("/", 32), "/", true)
	under(t, of("/", 33), "/", false)
}

// TestUnderWrong is P4.2 of texts that are no path: they are under nothing, and nothing is under them, not even they themselves.
func TestUnderWrong(t *testing.T) {
	for _, s := range append(wrongs(), "a", "a.b", "*", "*.b", host32()) {
		under(t, s, s, false)
		under(t, s, "/", false)
		under(t, s, "", false)
		under(t, s, "/a", false)
		under(t, "/", s, false)
		under(t, "/a", s, false)
		under(t, "/a/b", s, false)
		under(t, "", s, false)
		under(t, s+"/a", s, false)
		under(t, s+"/", s, false)
	}
	under(t, "/a/B", "/a", false)
	under(t, "/a/b\xff", "/a", false)
	under(t, "/A/b", "/A", false)
	under(t, "/a/.", "/a", false)
	under(t, "a/b", "a", false)
}

// TestUnderShort is P4.2: all pairs of short texts.
func TestUnderShort(t *testing.T) {
	l := append(texts("/a-.", 4), "/a/a/a", "/a/a/", "/aa/a", "//a/a", "/a//a", "/A/a", "/a/\xff")
	for _, p := range l {
		for _, top := range l {
			under(t, p, top, below(p, top))
		}
	}
}

// TestWeight is P4.3 of each kind of pattern, and of what is none.
func TestWeight(t *testing.T) {
	weight(t, "*", 0)
	weight(t, "a", 100)
	weight(t, "a.b", 100)
	weight(t, "www.example.org", 100)
	weight(t, of("a.", 31), 100)
	weight(t, host32(), 100)
	weight(t, "*.b", 1)
	weight(t, "*.ab", 2)
	weight(t, "*.a.b", 3)
	weight(t, "*.example.org", 11)
	weight(t, "*."+of("a", 16), 16)
	weight(t, "*."+of("a.", 31), 31)
	weight(t, "*."+host32(), 32)
	for _, s := range append(wrongs(), "/", "/a", "*."+host32()+"a", "*.*."+host32()) {
		weight(t, s, 0)
	}
	for _, s := range texts("a0-.*/", 5) {
		weight(t, s, weighed(s))
	}
	for n := range 100 {
		for _, s := range []string{"a", "a.", "ab.c", "abcdefghijklmno."} {
			weight(t, of(s, n), weighed(of(s, n)))
			weight(t, "*."+of(s, n), weighed("*."+of(s, n)))
		}
	}
}

// TestBetter is P4.3: by the weights, and by the paths' bytes where these are as great.
func TestBetter(t *testing.T) {
	better(t, "a", "/", "*.b", "/", true)
	better(t, "a", "/", "*", "/", true)
	better(t, "*.b", "/", "*", "/", true)
	better(t, "*.a.b", "/", "*.b", "/", true)
	better(t, "a", "/", "*.b", "/a/a/a", true)
	better(t, "a", "/", "*."+host32(), "/a", true)
	better(t, "*.b", "/", "*", "/a/a/a", true)
	better(t, "*.ab", "/", "*.b", "/a/a/a", true)
	better(t, "*.b", "/", "a", "/", false)
	better(t, "*.b", "/a/a/a", "a", "/", false)
	better(t, "*."+host32(), "/a", "a", "/", false)
	better(t, "*", "/a", "a", "/", false)
	better(t, "*", "/a", "*.b", "/", false)
	better(t, "*.b", "/a", "*.a.b", "/", false)
	for _, p := range []string{"*", "*.b", "*.a.b", "a", "a.b"} {
		better(t, p, "/a", p, "/", true)
		better(t, p, "/a/b", p, "/ab", true)
		better(t, p, "/"+of("a", 31), p, "/"+of("b", 30), true)
		better(t, p, "/", p, "/a", false)
		better(t, p, "/ab", p, "/a/b", false)
		better(t, p, "/a", p, "/b", false)
		better(t, p, "/b", p, "/a", false)
		better(t, p, "/", p, "/", false)
	}
	better(t, "a", "/a", "b.c", "/", true)
	better(t, "b.c", "/a", "a", "/", true)
	better(t, "a.b.c", "/", "a", "/a", false)
	better(t, "a", "/a", "b", "/b", false)
	better(t, "*.a", "/a", "*.b", "/", true)
	better(t, "*.a", "/a", "*.b", "/b", false)
}

// TestBetterWrong is P4.3 of texts that are no pattern, or no path: the former weigh 0, as `*` does, and the latter's bytes are counted like all others.
func TestBetterWrong(t *testing.T) {
	for _, s := range wrongs() {
		better(t, s, "/a", "*", "/", true)
		better(t, s, "/", "*", "/a", false)
		better(t, s, "/", "*", "/", false)
		better(t, "*", "/a", s, "/", true)
		better(t, "*", "/", s, "/a", false)
		better(t, s, "/a", "*.b", "/", false)
		better(t, "*.b", "/", s, "/a", true)
		better(t, "a", "/", s, "/a", true)
		better(t, s, "/a", s, "/", true)
		better(t, "a", s+"x", "b", s, true)
		better(t, "a", s, "b", s+"x", false)
		better(t, "a", s, "b", s, false)
		better(t, "a", "", "b", s, false)
		better(t, "a", s, "b", "", s != "")
		better(t, "a", "", "*", s, true)
	}
}

// grid is each of the patterns with each of the paths.
func grid(patterns, paths []string) [][2]string {
	var l [][2]string
	for _, pattern := range patterns {
		for _, path := range paths {
			l = append(l, [2]string{pattern, path})
		}
	}
	return l
}

// TestBetterAll is P4.3 and P4.4: all pairs of many patterns and paths; of two at most one is better, and nothing is better than itself.
func TestBetterAll(t *testing.T) {
	l := grid(
		[]string{"", "*", "*.", "*.b", "*.c", "*.ab", "*.a.b", "a", "a.b", "B", "é", host32(), "*." + host32(), "a" + host32()},
		[]string{"", "/", "/a", "/b", "/ab", "/a/", "a", "/A", "/é", "/" + of("a", 31), "/" + of("a", 32)},
	)
	for _, a := range l {
		if Better(a[0], a[1], a[0], a[1]) {
			t.Errorf("P4.4: %q is better than itself", a)
		}
		for _, b := range l {
			v, w := weighed(a[0]), weighed(b[0])
			better(t, a[0], a[1], b[0], b[1], v > w || v == w && len(a[1]) > len(b[1]))
			if Better(a[0], a[1], b[0], b[1]) && Better(b[0], b[1], a[0], a[1]) {
				t.Errorf("P4.3: %q and %q are better than each other", a, b)
			}
		}
	}
}

// tails are all patterns that may mean host: `*`, its own, and those of the tails behind each of its bytes.
func tails(host string) []string {
	l := []string{"*", host}
	for i := range len(host) {
		l = append(l, "*."+host[i:])
	}
	return l
}

// TestUnlikeWeights is P4.4: patterns that mean one host, and are unlike, weigh unlike, so that of each two one is better, whatever their paths are.
func TestUnlikeWeights(t *testing.T) {
	hosts := append(texts("ab.", 6), host32(), of("a.", 31), of("aa.", 32), "a.b.a.b.a.b.a.b")
	short := texts("ab.*", 5)
	several := 0
	for _, host := range hosts {
		seen := map[int]string{}
		for _, p := range append(tails(host), short...) {
			if !Match(p, host) {
				continue
			}
			if q, is := seen[Weight(p)]; is && q != p {
				t.Errorf("P4.4: %q and %q mean %q, and weigh %d", p, q, host, Weight(p))
			}
			seen[Weight(p)] = p
		}
		for _, p := range seen {
			for _, q := range seen {
				if p != q && Better(p, "/", q, "/a") == Better(q, "/a", p, "/") {
					t.Errorf("P4.4: of %q and %q, which mean %q, none is better, or both", p, q, host)
				}
			}
		}
		if len(seen) > 2 {
			several++
		}
	}
	// Without hosts that several patterns mean this test would be idle.
	if several == 0 {
		t.Error("P4.4: no host has patterns of several kinds")
	}
}

// TestUnderUnder is P4.4: what is under a path that is under another one is under that one, too.
func TestUnderUnder(t *testing.T) {
	long := "/" + of("a/b-", 31)
	l := append(texts("/a-", 5), long, long[:30], long[:8], long[:4], long[:3], "", "a", "/A")
	deep := 0
	for _, path := range l {
		for _, mid := range l {
			if !Under(path, mid) {
				continue
			}
			for _, top := range l {
				if !Under(mid, top) {
					continue
				}
				under(t, path, top, true)
				if path != mid && mid != top {
					deep++
				}
			}
		}
	}
	// Without three unlike paths, one under the other, this test would be idle.
	if deep == 0 {
		t.Error("P4.4: no path is under one that is under another one")
	}
}
