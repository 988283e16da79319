package routes

import (
	"math"
	"math/rand"
	"regexp"
	"slices"
	"strings"
	"testing"

	"hydrant/api"
)

// These say chapter 3's words once more, in another way than the code of names does.
var (
	hostForm = regexp.MustCompile(`\A[a-z][a-z0-9-]{0,15}(\.[a-z][a-z0-9-]{0,15})*\z`)
	pathForm = regexp.MustCompile(`\A/[a-z0-9/-]{0,31}\z`)
)

func isHost(s string) bool { return len(s) <= 32 && hostForm.MatchString(s) }

func isPath(s string) bool { return pathForm.MatchString(s) }

// request is what a rule is sought for.
type request struct {
	listen     int
	host, path string
}

// reaches is whether r is of q's listener.
func reaches(r api.Rule, q request) bool { return q.listen == r.Listen }

// means is whether r's Host means q's host, told by the hosts' names from their ends, where package hosts goes by bytes.
func means(r api.Rule, q request) bool {
	if !isHost(q.host) {
		return false
	}
	if r.Host == "*" {
		return true
	}
	tail, tailed := strings.CutPrefix(r.Host, "*.")
	p, h := strings.Split(tail, "."), strings.Split(q.host, ".")
	if !isHost(tail) || len(p) > len(h) || tailed == (len(p) == len(h)) {
		return false
	}
	return slices.Equal(p, h[len(h)-len(p):]) && (tailed || len(p) == len(h))
}

// holds is whether q's path is r's Path, or under it, told by the path with a `/` behind each.
func holds(r api.Rule, q request) bool {
	if !isPath(q.path) || !isPath(r.Path) {
		return false
	}
	return q.path == r.Path || strings.HasPrefix(q.path, strings.TrimSuffix(r.Path, "/")+"/")
}

// suits is P6.1.
func suits(r api.Rule, q request) bool { return reaches(r, q) && means(r, q) && holds(r, q) }

// rank is how good a rule that fits is: a host's rank is above all tails', one more byte of a tail above all paths'.
func rank(r api.Rule) int {
	switch tail, tailed := strings.CutPrefix(r.Host, "*."); {
	case tailed:
		return len(tail)*1000 + len(r.Path)
	case r.Host == "*":
		return len(r.Path)
	}
	return 100000 + len(r.Path)
}

// sought is P6.2, by its words: all that fit are gathered, and of them those than which none is better.
func sought(l []api.Rule, q request) (int, api.Errno) {
	most := -1
	for _, r := range l {
		if suits(r, q) {
			most = max(most, rank(r))
		}
	}
	i := slices.IndexFunc(l, func(r api.Rule) bool { return suits(r, q) && rank(r) == most })
	if i < 0 {
		return 0, api.ErrNone
	}
	return i, api.OK
}

func rule(listen int, host, path string, cluster int) api.Rule {
	return api.Rule{Listen: listen, Host: host, Path: path, Cluster: cluster}
}

// of is a text of n bytes, which are those of s, again and again.
func of(s string, n int) string { return strings.Repeat(s, n)[:n] }

// host32 is a host of just 32 bytes, one of whose names has 16.
func host32() string { return of("abcdefghijklmno", 15) + "." + of("pqrstuvwxyz0123-", 16) }

// path32 is a path of just 32 bytes.
func path32() string { return "/" + of("a/b-", 31) }

func fits(t *testing.T, r api.Rule, q request, want bool) {
	t.Helper()
	if Fits(r, q.listen, q.host, q.path) != want {
		t.Errorf("P6.1: Fits(%+v, %d, %q, %q) is not %t", r, q.listen, q.host, q.path, want)
	}
}

// best holds what is told of l and q against a number and an error.
func best(t *testing.T, l []api.Rule, q request, want int, e api.Errno) {
	t.Helper()
	if n, got := Best(l, q.listen, q.host, q.path); n != want || got != e {
		t.Errorf("P6.2: Best(%+v, %d, %q, %q) = %d, %d; want %d, %d", l[:min(len(l), 20)], q.listen, q.host, q.path, n, got, want, e)
	}
}

// found is best of a rule that there is.
func found(t *testing.T, l []api.Rule, q request, want int) {
	t.Helper()
	best(t, l, q, want, api.OK)
}

// none is best of no rule.
func none(t *testing.T, l []api.Rule, q request) {
	t.Helper()
	best(t, l, q, 0, api.ErrNone)
}

// notHosts are texts that are no host, wrongHosts those of them that are no pattern either.
func notHosts() []string { return append(wrongHosts(), "*", "*.b", "*.a.b") }

func wrongHosts() []string {
	return []string{
		"", ".", "a.", ".a", "a..b", "A", "a.B", "1", "a.1", "-a", "a_b", "a b", "a:80", "/", "/a", "é", "a.é", "a\n", "\x00", "a\xff",
		"**", "*.", "*a", "a*", "a.*", "*.*", "*.*.b", "*..b", "*.B", "*.b.", of("a", 17), "*." + of("a", 17), of("a.", 33), "*." + of("a.", 33), of("a", 1<<16),
	}
}

func notPaths() []string {
	return []string{
		"", "a", "a/", "a/b", " /", "*", "a.b", "/A", "/a.b", "/*", "/_", "/a?b", "/a b", "/é", "/a\n", "\n", "/\x00", "/\xff",
		"/" + of("a", 32), of("/", 33), "/" + of("a", 1<<16),
	}
}

// wrongs are rules that fit q by two of Listen, Host and Path, but not by the third one. Some of them are no pattern, or no path.
func wrongs(q request) []api.Rule {
	var l []api.Rule
	for _, n := range []int{q.listen - 1, q.listen + 1, -q.listen - 1, q.listen ^ 1<<32, math.MinInt, math.MaxInt} {
		if n != q.listen {
			l = append(l, rule(n, q.host, q.path, 0), rule(n, "*", "/", 1))
		}
	}
	for _, host := range append(wrongHosts(), "other", "x"+q.host, q.host+"x", q.host+".x", "x."+q.host, "*."+q.host, "*"+q.host, q.host+".*") {
		l = append(l, rule(q.listen, host, "/", 0), rule(q.listen, host, q.path, 1))
	}
	for _, path := range append(notPaths(), "/other", q.path+"x", "/x"+q.path, q.path[1:], q.path+"/", q.path+"/x") {
		l = append(l, rule(q.listen, "*", path, 0), rule(q.listen, q.host, path, 1))
	}
	return l
}

// asks are requests that may be, of listeners of many numbers.
func asks() []request {
	var l []request
	for i, host := range []string{"a", "a.b", "x.a.b", "www.example.org", host32()[:31]} {
		for k, path := range []string{"/a", "/a/b", "/a-0", path32()[:29]} {
			l = append(l, request{[]int{0, 1, 3, -1, -2, 1 << 40}[(i*4+k)%6], host, path})
		}
	}
	return l
}

// TestFits is P6.1 of rules that fit.
func TestFits(t *testing.T) {
	for _, host := range []string{"*", "*.b", "*.a.b", "x.a.b"} {
		for _, path := range []string{"/", "/a", "/a/", "/a/b"} {
			for _, n := range []int{0, 1, 3, 4, -1, math.MinInt, math.MaxInt} {
				for _, cluster := range []int{0, 1, -1, math.MaxInt} {
					fits(t, rule(n, host, path, cluster), request{n, "x.a.b", "/a/b"}, true)
				}
			}
		}
	}
	fits(t, rule(0, "*", "/", 0), request{0, "a", "/"}, true)
	fits(t, rule(2, "a", "/", 0), request{2, "a", "/"}, true)
	fits(t, rule(0, "*", "/", 0), request{0, host32(), path32()}, true)
	fits(t, rule(0, host32(), path32(), 0), request{0, host32(), path32()}, true)
	fits(t, rule(0, "*."+host32()[16:], "/a", 0), request{0, host32(), path32()}, true)
}

// TestFitsNot is P6.1 of rules that fail by one of Listen, Host and Path alone.
func TestFitsNot(t *testing.T) {
	q := request{1, "x.a.b", "/a/b"}
	fits(t, rule(1, "*.b", "/a", 0), q, true)
	fits(t, rule(0, "*.b", "/a", 0), q, false)
	fits(t, rule(2, "*.b", "/a", 1), q, false)
	fits(t, rule(-1, "*.b", "/a", 1), q, false)
	fits(t, rule(1, "*.a", "/a", 0), q, false)
	fits(t, rule(1, "b", "/a", 0), q, false)
	fits(t, rule(1, "a.b", "/a", 0), q, false)
	fits(t, rule(1, "*.x.a.b", "/a", 0), q, false)
	fits(t, rule(1, "*.b", "/b", 0), q, false)
	fits(t, rule(1, "*.b", "/a/b/", 0), q, false)
	fits(t, rule(1, "*.b", "/a/b/c", 0), q, false)
	fits(t, rule(1, "*.b", "//", 0), q, false)
	fits(t, rule(0, "*", "/a", 0), request{0, "a", "/ab"}, false)
	fits(t, rule(0, "*.b", "/", 0), request{0, "b", "/"}, false)
	fits(t, rule(0, "*.b", "/", 0), request{0, "ab", "/"}, false)
	for _, q := range asks() {
		fits(t, rule(q.listen, q.host, q.path, 0), q, true)
		fits(t, rule(q.listen, "*", "/", 0), q, true)
		for _, r := range wrongs(q) {
			fits(t, r, q, false)
		}
	}
}

// TestFitsNothing is P6.1 of hosts and paths that are none: they fit no rule, not even one that says just the same.
func TestFitsNothing(t *testing.T) {
	for _, s := range notHosts() {
		for _, host := range []string{s, "*", "*.b", "a", "*." + s, "*" + s} {
			fits(t, rule(0, host, "/", 0), request{0, s, "/"}, false)
			fits(t, rule(0, host, "/", 0), request{0, s, "/a"}, false)
		}
	}
	for _, s := range notPaths() {
		for _, path := range []string{s, "/", "/a", ""} {
			fits(t, rule(0, "*", path, 0), request{0, "a", s}, false)
			fits(t, rule(0, "a", path, 0), request{0, "a", s}, false)
		}
	}
	fits(t, api.Rule{}, request{}, false)
	fits(t, rule(0, "*", "/", 0), request{}, false)
	fits(t, api.Rule{}, request{0, "a", "/"}, false)
}

// each is rules of all those Listens, Hosts and Paths. Their Clusters play no part, and are their numbers.
func each(listens []int, hosts, paths []string) []api.Rule {
	var l []api.Rule
	for _, n := range listens {
		for _, host := range hosts {
			for _, path := range paths {
				l = append(l, rule(n, host, path, len(l)))
			}
		}
	}
	return l
}

// TestFitsAll is P6.1 of many rules with many requests.
func TestFitsAll(t *testing.T) {
	hosts := append(wrongHosts(), "*", "*.b", "*.a", "*.a.b", "*.x.a.b", "a", "b", "ab", "a.b", "a.a.b", "x.a.b", host32(), "*."+host32(), "*."+host32()[16:], "a"+host32())
	paths := append(notPaths(), "/", "//", "/a", "/a/", "/a//", "/ab", "/a/b", "/a/bc", "/a/b/c", "/b", path32(), path32()[:30], path32()[:31], path32()+"c")
	count := map[bool]int{}
	for _, r := range each([]int{0}, hosts, []string{"/", "/a"}) {
		for _, host := range hosts {
			q := request{0, host, "/a/b"}
			fits(t, r, q, suits(r, q))
			count[suits(r, q)]++
		}
	}
	for _, r := range each([]int{-1}, []string{"*", "*.b"}, paths) {
		for _, path := range paths {
			q := request{-1, "a.b", path}
			fits(t, r, q, suits(r, q))
			count[suits(r, q)]++
		}
	}
	// Few of them alone would make this test idle.
	if count[true] < 100 || count[false] < 1000 {
		t.Errorf("%v fit, and do not", count)
	}
}

// TestBestNone is P6.2 without a rule that fits: no rules, one that does not fit, and many of them.
func TestBestNone(t *testing.T) {
	none(t, nil, request{})
	none(t, nil, request{0, "a", "/"})
	none(t, []api.Rule{}, request{0, "a", "/"})
	none(t, []api.Rule{{}}, request{})
	for _, q := range asks() {
		none(t, nil, q)
		l := wrongs(q)
		for _, r := range l {
			none(t, []api.Rule{r}, q)
		}
		none(t, l, q)
		slices.Reverse(l)
		none(t, l, q)
	}
}

// TestBestNothing is P6.2 of hosts and paths that are none, whatever the rules are.
func TestBestNothing(t *testing.T) {
	for _, s := range notHosts() {
		l := []api.Rule{rule(0, "*", "/", 0), rule(0, s, "/", 1), rule(0, "*."+s, "/a", 2), rule(0, "a", "/", 3)}
		none(t, l, request{0, s, "/"})
		none(t, l, request{0, s, "/a"})
		none(t, l, request{0, "x." + s + ".", "/a"})
	}
	for _, s := range notPaths() {
		l := []api.Rule{rule(0, "*", "/", 0), rule(0, "*", s, 1), rule(0, "a", "/", 2), rule(0, "a", s, 3)}
		none(t, l, request{0, "a", s})
		none(t, l, request{0, "b", s})
	}
}

// TestBestWrongRules is P6.2 of rules whose Host is no pattern, or whose Path is no path: they are not told, also where they stand first, or seem better.
func TestBestWrongRules(t *testing.T) {
	for _, s := range wrongHosts() {
		l := []api.Rule{rule(0, s, "/a/b", 0), rule(0, s, "/", 1), rule(0, "*", "/", 2), rule(0, s, "/a", 3)}
		found(t, l, request{0, "a", "/a/b"}, 2)
		none(t, l[:2], request{0, "a", "/a/b"})
	}
	for _, s := range notPaths() {
		l := []api.Rule{rule(0, "a", s, 0), rule(0, "*", s, 1), rule(0, "*", "/", 2), rule(0, "a", s, 3)}
		found(t, l, request{0, "a", "/a/b"}, 2)
		none(t, l[:2], request{0, "a", "/a/b"})
	}
}

// TestBestOne is P6.2 of one rule that fits, alone, and among rules of other listeners.
func TestBestOne(t *testing.T) {
	for _, q := range asks() {
		for _, r := range []api.Rule{rule(q.listen, "*", "/", 0), rule(q.listen, "*", q.path, 5), rule(q.listen, q.host, "/", -1), rule(q.listen, q.host, q.path, 2)} {
			found(t, []api.Rule{r}, q, 0)
			other := rule(q.listen+1, q.host, q.path, 0)
			found(t, []api.Rule{other, r}, q, 1)
			found(t, []api.Rule{r, other}, q, 0)
			found(t, []api.Rule{other, other, r, other}, q, 2)
		}
	}
}

// TestBestByHost is P6.2 of several that fit, of which one is better by its Host, wherever it stands, and however long the others' Paths are.
func TestBestByHost(t *testing.T) {
	q := request{0, "x.a.b", "/a/b"}
	hosts := []string{"*", "*.b", "*.a.b", "x.a.b"}
	for i, worse := range hosts {
		for _, host := range hosts[i+1:] {
			for _, path := range []string{"/", "/a", "/a/", "/a/b"} {
				for _, other := range []string{"/", "/a", "/a/", "/a/b"} {
					found(t, []api.Rule{rule(0, worse, other, 0), rule(0, host, path, 1)}, q, 1)
					found(t, []api.Rule{rule(0, host, path, 1), rule(0, worse, other, 0)}, q, 0)
					found(t, []api.Rule{rule(0, worse, other, 0), rule(0, host, path, 0), rule(0, worse, other, 0)}, q, 1)
				}
			}
		}
	}
	// No tail that means a host is longer than 30 bytes, and even that one is worse than the host itself.
	long := "a." + host32()[2:]
	found(t, []api.Rule{rule(1, "*."+long[2:], "/a/b", 0), rule(1, long, "/", 0)}, request{1, long, "/a/b"}, 1)
	found(t, []api.Rule{rule(1, "*", path32(), 0), rule(1, "*."+long[2:], "/", 0)}, request{1, long, path32()}, 1)
}

// TestBestByPath is P6.2 of several that fit, of which one is better by its Path alone.
func TestBestByPath(t *testing.T) {
	paths := []string{"/", "/a", "/a/", "/a/b", "/a/b/", "/a/b/c"}
	for _, host := range []string{"*", "*.b", "*.a.b", "x.a.b"} {
		for i, worse := range paths {
			for _, path := range paths[i+1:] {
				q := request{2, "x.a.b", "/a/b/c"}
				found(t, []api.Rule{rule(2, host, worse, 0), rule(2, host, path, 1)}, q, 1)
				found(t, []api.Rule{rule(2, host, path, 1), rule(2, host, worse, 0)}, q, 0)
				found(t, []api.Rule{rule(2, host, worse, 0), rule(2, host, path, 0), rule(2, host, worse, 0)}, q, 1)
			}
		}
	}
	l := []api.Rule{rule(0, "*", "/", 0), rule(0, "*", "/a", 1)}
	found(t, l, request{0, "h", "/a/c"}, 1)
	found(t, l, request{0, "h", "/ac"}, 0)
	found(t, []api.Rule{rule(0, "*", path32()[:31], 0), rule(0, "*", path32(), 0), rule(0, "*", path32()[:30], 0)}, request{0, "h", path32()}, 1)
}

// TestBestFirst is P6.2 of several that fit, of which none is better than another one: the first one is told, whatever their Clusters are, and whatever worse ones are between.
func TestBestFirst(t *testing.T) {
	q := request{1, "x.a.b", "/a/b"}
	for _, host := range []string{"*.b", "*.a.b", "x.a.b"} {
		for _, path := range []string{"/a", "/a/", "/a/b"} {
			worse := []api.Rule{rule(1, "*", path, 7), rule(1, host, "/", 7), rule(1, "*", "/", 7), rule(0, host, path, 7)}
			for n := range 5 {
				var l []api.Rule
				for i := range n {
					l = append(l, worse[i%len(worse)])
				}
				for i := range 4 {
					l = append(l, rule(1, host, path, []int{3, 1, 0, 2}[i]), worse[i], worse[n%len(worse)])
					found(t, l, q, n)
				}
			}
		}
	}
	same := slices.Repeat([]api.Rule{rule(0, "*", "/", 0)}, 1<<12)
	found(t, same, request{0, "a", "/"}, 0)
	found(t, slices.Insert(same, 1<<11, rule(0, "*", "/a", 0), rule(0, "*", "/a", 0)), request{0, "a", "/a"}, 1<<11)
}

// TestBestOtherListens is P6.2 of rules of several listeners, each of which has its own best one.
func TestBestOtherListens(t *testing.T) {
	l := []api.Rule{
		rule(0, "*", "/", 0), rule(1, "*", "/", 0), rule(2, "x.a.b", "/a", 0), rule(1, "*.b", "/", 0),
		rule(0, "*", "/a", 0), rule(3, "*", "/b", 0), rule(2, "x.a.b", "/a", 1), rule(-1, "*", "/a/b", 0),
	}
	for listen, n := range map[int]int{0: 4, 1: 3, 2: 2, -1: 7} {
		found(t, l, request{listen, "x.a.b", "/a/b"}, n)
	}
	for _, listen := range []int{3, 4, -2, math.MinInt, math.MaxInt} {
		none(t, l, request{listen, "x.a.b", "/a/b"})
	}
	found(t, l, request{3, "x.a.b", "/b"}, 5)
	none(t, l, request{2, "a.b", "/a/b"})
}

// TestBestAll is P6.2 of all lists of up to 4 of some rules.
func TestBestAll(t *testing.T) {
	q := request{1, "x.a.b", "/a/b"}
	rules := append(each([]int{1}, []string{"*", "*.a.b", "x.a.b"}, []string{"/", "/a", "/a/b"}), rule(0, "x.a.b", "/a/b", 9), rule(1, "a.b", "/a", 10), rule(1, "*.b", "/b", 11), rule(1, "", "/", 12), rule(1, "*", "", 13))
	lists := [][]api.Rule{nil}
	for i := 0; i < len(lists); i++ {
		l := lists[i]
		n, e := sought(l, q)
		best(t, l, q, n, e)
		if len(l) == 4 {
			continue
		}
		for _, r := range rules {
			lists = append(lists, append(slices.Clone(l), r))
		}
	}
}

// drawn are rules and a request of few different values, so that many fit, and many are alike.
func drawn(r *rand.Rand) ([]api.Rule, request) {
	one := func(l ...string) string { return l[r.Intn(len(l))] }
	var l []api.Rule
	for range r.Intn(10) {
		host := one("*", "*", "*.b", "*.a.b", "x.a.b", "a.b", "*.a", "b", "**", "X")
		path := one("/", "/", "/a", "/a/", "/a/b", "/ab", "/b", "a")
		l = append(l, rule(r.Intn(7)%3, host, path, r.Intn(4)))
	}
	return l, request{r.Intn(7) % 3, one("x.a.b", "x.a.b", "a.b", "b", "a", "*.b"), one("/a/b/c", "/a/b", "/a", "/ab/c", "/b", "b")}
}

// TestBestDrawn is P6.2 of rules and requests that are drawn, always the same ones.
func TestBestDrawn(t *testing.T) {
	r, told := rand.New(rand.NewSource(6)), map[int]int{}
	for range 100000 {
		l, q := drawn(r)
		n, e := sought(l, q)
		best(t, l, q, n, e)
		if e == api.OK {
			told[n]++
		}
	}
	for n := range 9 {
		if told[n] == 0 {
			t.Errorf("no rules were drawn of which number %d is the best one", n)
		}
	}
}

// TestBestFits is P6.3: the best rule fits, and where none is told none fits.
func TestBestFits(t *testing.T) {
	r := rand.New(rand.NewSource(61))
	for range 20000 {
		l, q := drawn(r)
		n, e := Best(l, q.listen, q.host, q.path)
		if e == api.OK && !Fits(l[n], q.listen, q.host, q.path) {
			t.Errorf("P6.3: number %d of %+v does not fit %+v", n, l, q)
		}
		one := slices.ContainsFunc(l, func(x api.Rule) bool { return Fits(x, q.listen, q.host, q.path) })
		if one != (e == api.OK) {
			t.Errorf("P6.3: %d of %+v and %+v", e, l, q)
		}
	}
}

// laid holds what is told of l with x laid at a place against what is told of l alone: n, or nothing.
func laid(t *testing.T, l []api.Rule, x api.Rule, q request, n int, e api.Errno) {
	t.Helper()
	for i := range len(l) + 1 {
		want := n
		if e == api.OK && i <= n {
			want++ // the best one stands behind x
		}
		best(t, slices.Insert(slices.Clone(l), i, x), q, want, e)
	}
}

// TestLaid is P6.3 of a rule that does not fit, laid ahead of all others, between them, and behind them.
func TestLaid(t *testing.T) {
	for _, q := range asks() {
		l := []api.Rule{rule(q.listen, "*", "/", 0), rule(q.listen, "*", q.path, 1), rule(q.listen, q.host, "/", 2), rule(q.listen, q.host, "/", 3), rule(q.listen, "*", q.path, 4)}
		for _, x := range wrongs(q) {
			laid(t, nil, x, q, 0, api.ErrNone)
			laid(t, l[:1], x, q, 0, api.OK)
			laid(t, l[:2], x, q, 1, api.OK)
			laid(t, l, x, q, 2, api.OK)
		}
	}
	r := rand.New(rand.NewSource(63))
	for range 10000 {
		l, q := drawn(r)
		n, e := Best(l, q.listen, q.host, q.path)
		all, _ := drawn(r)
		for _, x := range all {
			if !suits(x, q) {
				laid(t, l, x, q, n, e)
			}
		}
	}
}

// TestMore is P6.3 of one rule more at the end that is better, worse, or alike.
func TestMore(t *testing.T) {
	q := request{0, "x.a.b", "/a/b"}
	l := []api.Rule{rule(0, "*", "/a", 0), rule(0, "*.b", "/a", 0), rule(0, "*.b", "/", 0)}
	found(t, l, q, 1)
	for _, x := range []api.Rule{rule(0, "*.b", "/a/", 0), rule(0, "*.a.b", "/", 0), rule(0, "x.a.b", "/", 0), rule(0, "x.a.b", "/a/b", 9)} {
		found(t, append(l[:3:3], x), q, 3)
	}
	for _, x := range []api.Rule{rule(0, "*.b", "/", 0), rule(0, "*", "/a/b", 0), rule(0, "*", "/", 1), rule(0, "*", "/a", 9)} {
		found(t, append(l[:3:3], x), q, 1)
	}
	for _, x := range []api.Rule{rule(0, "*.b", "/a", 0), rule(0, "*.b", "/a", -1), rule(0, "*.b", "/a", 9)} {
		found(t, append(l[:3:3], x), q, 1)
	}
	for _, x := range wrongs(q) {
		found(t, append(l[:3:3], x), q, 1)
		none(t, []api.Rule{x}, q)
	}
	found(t, []api.Rule{l[0]}, q, 0)
}

// TestMoreDrawn is P6.3: with a rule more at the end the best one is the same, or that one, just if that one fits and is better.
func TestMoreDrawn(t *testing.T) {
	r, ends := rand.New(rand.NewSource(64)), map[bool]int{}
	for range 20000 {
		l, q := drawn(r)
		more, _ := drawn(r)
		for _, x := range more {
			n, e := Best(l, q.listen, q.host, q.path)
			better := suits(x, q) && (e != api.OK || rank(x) > rank(l[n]))
			if better {
				n, e = len(l), api.OK
			}
			ends[better]++
			l = append(l, x)
			best(t, l, q, n, e)
		}
	}
	if ends[true] == 0 || ends[false] == 0 {
		t.Errorf("%v were better, and not", ends)
	}
}

// TestFittingEnds is of who ends the going through what fits: nothing more is told then.
func TestFittingEnds(t *testing.T) {
	l := slices.Repeat([]api.Rule{rule(0, "*", "/", 0), rule(1, "*", "/", 0)}, 3)
	for most := 1; most <= 3; most++ {
		var told []int
		for i, r := range fitting(l, 0, "a", "/") {
			if r != l[i] {
				t.Errorf("%d: %+v", i, r)
			}
			if told = append(told, i); len(told) == most {
				break
			}
		}
		if !slices.Equal(told, []int{0, 2, 4}[:most]) {
			t.Errorf("%v were told, to the end at %d", told, most)
		}
	}
}

// TestStays is R2: what is handed in stays as it is, also behind the end of the list, and what is told hangs on nothing else.
func TestStays(t *testing.T) {
	r := rand.New(rand.NewSource(62))
	for range 5000 {
		l, q := drawn(r)
		long := append(slices.Clone(l), rule(q.listen, q.host, q.path, 0), rule(q.listen, "*", "/", 1))
		was := slices.Clone(long)
		n, e := sought(l, q)
		for range 2 {
			best(t, long[:len(l)], q, n, e)
			best(t, l, q, n, e)
		}
		if !slices.Equal(long, was) {
			t.Errorf("R2: %+v became %+v", was, long)
		}
	}
}
