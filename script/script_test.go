package script

import (
	"bytes"
	"encoding/binary"
	"fmt"
	"math"
	"math/rand"
	"reflect"
	"slices"
	"strings"
	"testing"

	"hydrant/api"
	"hydrant/config"
)

// listening is a configuration that passes, if its listeners do.
func listening(listens ...string) api.Config {
	return api.Config{
		Listens:  listens,
		Routes:   []api.Route{{Listen: listens[0], Host: "*", Path: "/", Cluster: "app"}},
		Clusters: []api.Cluster{{Name: "app", Policy: api.RoundRobin, Slots: 1, Health: []bool{true}}},
	}
}

// wrong is a configuration that does not pass, though its listeners are right.
func wrong(listens ...string) api.Config {
	c := listening(listens...)
	c.Clusters[0].Slots = api.MaxSlots + 1
	return c
}

// swapTo is an operation of a new configuration.
func swapTo(c api.Config) api.Op { return api.Op{Kind: api.OpSwap, Config: c} }

// right is a script that is right, of three threads and three picks, with operations of all kinds.
func right() api.Script {
	return api.Script{
		First: listening("web"),
		Threads: [][]api.Op{
			{{Kind: api.OpHandle, Listen: "web", Host: "a.b", Path: "/", D0: 1, D1: 2}, {Kind: api.OpFinish, N: 0}},
			{swapTo(listening("web", "admin")), {Kind: api.OpDrain, Listen: "web"}, {Kind: api.OpCollect}},
			{{Kind: api.OpStats}},
		},
		Picks: []int{0, 2, 1},
	}
}

// short is what x says, but no more of it than somebody would read.
func short(x any) string {
	s := fmt.Sprintf("%+q", fmt.Sprintf("%+v", x))
	return s[:min(len(s), 1000)]
}

// is holds whether s is right against want.
func is(t *testing.T, s api.Script, want bool) {
	t.Helper()
	if Is(s) != want {
		t.Errorf("P8.1: %t is not so of %s", !want, short(s))
	}
}

// named holds the names of s against want.
func named(t *testing.T, s api.Script, want ...string) {
	t.Helper()
	if l := Names(s); !slices.Equal(l, want) {
		t.Errorf("P8.1: the names %s; want %s, of %s", short(l), short(want), short(s))
	}
}

// isWritten holds the bytes of l against want and an error.
func isWritten(t *testing.T, l []int, want []byte, e api.Errno) {
	t.Helper()
	if b, got := Bytes(l); !bytes.Equal(b, want) || got != e {
		t.Errorf("P8.2: Bytes: %s, %d; want %s, %d, of %s", short(b), got, short(want), e, short(l))
	}
}

// isRead holds the numbers of b against want and an error.
func isRead(t *testing.T, b []byte, want []int, e api.Errno) {
	t.Helper()
	if l, got := Picks(b); !slices.Equal(l, want) || got != e {
		t.Errorf("P8.2: Picks: %s, %d; want %s, %d, of %s", short(l), got, short(want), e, short(b))
	}
}

// joined are all bytes of the parts, one behind the other.
func joined(parts ...[]byte) []byte { return bytes.Join(parts, nil) }

// TestIs is P8.1 of a script that is right, and of ones that are all but empty, or full.
func TestIs(t *testing.T) {
	is(t, right(), true)
	is(t, api.Script{}, false)
	is(t, api.Script{First: listening("a"), Threads: [][]api.Op{nil}}, true)
	is(t, api.Script{First: listening("a"), Threads: [][]api.Op{{}}, Picks: []int{}}, true)
	full := api.Script{First: listening("a", "b", "c", "d"), Picks: slices.Repeat([]int{math.MaxInt}, api.MaxPicks)}
	for range api.MaxThreads {
		full.Threads = append(full.Threads, slices.Repeat([]api.Op{{Kind: api.OpStats}}, api.MaxOps))
	}
	is(t, full, true)
}

// TestIsFirst is P8.1 of a First that does not pass, by each error that Check may have of it.
func TestIsFirst(t *testing.T) {
	told := map[api.Errno]bool{}
	for _, at := range []func(c *api.Config){
		func(c *api.Config) { *c = api.Config{} },
		func(c *api.Config) { c.Listens = nil },
		func(c *api.Config) { c.Listens = []string{"web", "b", "c", "d", "e"} },
		func(c *api.Config) { c.Routes = nil },
		func(c *api.Config) { c.Clusters = nil },
		func(c *api.Config) { c.Listens = []string{"web", "B"} },
		func(c *api.Config) { c.Listens = []string{"web", "web"} },
		func(c *api.Config) { c.Clusters[0].Name = "" },
		func(c *api.Config) { c.Clusters = slices.Repeat(c.Clusters, 2) },
		func(c *api.Config) { c.Clusters[0].Policy = 3 },
		func(c *api.Config) { c.Clusters[0].Slots = 0 },
		func(c *api.Config) { c.Clusters[0].Health = nil },
		func(c *api.Config) { c.Routes[0].Listen = "app" },
		func(c *api.Config) { c.Routes[0].Host = "" },
		func(c *api.Config) { c.Routes[0].Path = "" },
		func(c *api.Config) { c.Routes[0].Cluster = "web" },
		func(c *api.Config) { c.Routes = slices.Repeat(c.Routes, 2) },
	} {
		s := right()
		at(&s.First)
		is(t, s, false)
		e, _ := config.Check(s.First)
		told[e] = true
		// Where a Config is an operation's, a script is right whether it passes or not.
		s = right()
		at(&s.Threads[1][0].Config)
		is(t, s, true)
	}
	for _, e := range []api.Errno{api.ErrName, api.ErrTwice, api.ErrNone, api.ErrLimit, api.ErrHost, api.ErrPath, api.ErrPolicy, api.ErrSlots} {
		if !told[e] {
			t.Errorf("no First was tried of which Check has the error %d", e)
		}
	}
}

// TestIsThreads is P8.1 of how many threads there are, whether they have operations or not.
func TestIsThreads(t *testing.T) {
	s := right()
	s.Threads = nil
	is(t, s, false)
	for n := range 20 {
		s.Threads = make([][]api.Op, n)
		is(t, s, 1 <= n && n <= 8)
		for i := range s.Threads {
			s.Threads[i] = []api.Op{{Kind: api.OpHandle}}
			is(t, s, 1 <= n && n <= 8)
		}
	}
	s.Threads = make([][]api.Op, 1<<20)
	is(t, s, false)
}

// TestIsOps is P8.1 of how many operations a thread has, whichever thread it is.
func TestIsOps(t *testing.T) {
	for threads := 1; threads <= api.MaxThreads; threads++ {
		for i := range threads {
			for n := range 20 {
				s := right()
				s.Threads = make([][]api.Op, threads)
				s.Threads[i] = slices.Repeat([]api.Op{{Kind: api.OpCollect}}, n)
				is(t, s, n <= 16)
			}
		}
	}
	// The limit is each thread's own.
	s := right()
	s.Threads = [][]api.Op{slices.Repeat([]api.Op{{Kind: api.OpDrain}}, 16), slices.Repeat([]api.Op{{Kind: api.OpFinish}}, 16)}
	is(t, s, true)
}

// TestIsKind is P8.1 of the Kind of an operation, whichever one it is.
func TestIsKind(t *testing.T) {
	kinds := []int{math.MinInt, math.MinInt + 1, -1 << 32, math.MinInt32, -256, -7, -6, -1, 0, 1, 2, 3, 4, 5, 6, 7, 8, 13, 256, 257, math.MaxInt32, 1 << 32, 1<<32 + 1, math.MaxInt}
	for _, kind := range kinds {
		for i := range api.MaxThreads {
			for k := range api.MaxOps {
				s := right()
				s.Threads = make([][]api.Op, api.MaxThreads)
				for n := range s.Threads {
					s.Threads[n] = slices.Repeat([]api.Op{{Kind: 1 + (n+k)%6}}, api.MaxOps)
				}
				s.Threads[i][k].Kind = kind
				is(t, s, 1 <= kind && kind <= 6)
			}
		}
	}
	// Nothing but its Kind is asked of an operation.
	s := right()
	s.Threads[0] = nil
	for kind := 1; kind <= 6; kind++ {
		s.Threads[0] = append(s.Threads[0], api.Op{Kind: kind, Listen: "NONE", Host: "*", Path: "x", D0: -1, D1: math.MinInt, N: -9, Config: wrong("")})
	}
	is(t, s, true)
}

// TestIsPicks is P8.1 of how many picks there are, and of one that is below 0.
func TestIsPicks(t *testing.T) {
	s := right()
	s.Picks = nil
	is(t, s, true)
	for _, n := range []int{0, 1, 2, 3999, 4000, 4001, 4002, 8000, 1 << 20} {
		s.Picks = make([]int, n)
		is(t, s, n <= 4000)
	}
	for _, n := range []int{1, 2, 4000} {
		for _, i := range []int{0, n / 2, n - 1} {
			for _, pick := range []int{math.MinInt, math.MinInt32, -1 << 32, -1} {
				s.Picks = make([]int, n)
				s.Picks[i] = pick
				is(t, s, false)
			}
			// A pick may be of no thread that there is.
			for _, pick := range []int{1, 3, 8, math.MaxInt32, 1 << 32, math.MaxInt} {
				s.Picks = make([]int, n)
				s.Picks[i] = pick
				is(t, s, true)
			}
		}
	}
}

// TestIsFaults is P8.1 of scripts with any number of faults: one is enough.
func TestIsFaults(t *testing.T) {
	faults := []func(s *api.Script){
		func(s *api.Script) { s.First.Clusters = nil },
		func(s *api.Script) { s.Threads = make([][]api.Op, 9) },
		func(s *api.Script) { s.Threads[0] = slices.Repeat([]api.Op{{Kind: api.OpHandle}}, 17) },
		func(s *api.Script) { s.Threads[1] = []api.Op{{}} },
		func(s *api.Script) { s.Picks = append(s.Picks, -1) },
		func(s *api.Script) { s.Picks = append(make([]int, 4000), s.Picks...) },
	}
	for set := range 1 << len(faults) {
		s := right()
		for i, f := range faults {
			if set>>i&1 == 1 {
				f(&s)
			}
		}
		is(t, s, set == 0)
	}
}

// TestNames is P8.1 of names of First and of operations of several threads, in the order in which they first come.
func TestNames(t *testing.T) {
	named(t, right(), "web", "admin")
	named(t, api.Script{})
	named(t, api.Script{First: listening("d", "a", "c", "b")}, "d", "a", "c", "b")
	named(t, api.Script{Threads: [][]api.Op{nil, {}, {swapTo(listening("z", "a"))}}}, "z", "a")
	named(t, api.Script{
		First: listening("m", "b"),
		Threads: [][]api.Op{
			{swapTo(listening("z", "b", "a")), {Kind: api.OpStats}, swapTo(listening("k", "m"))},
			{},
			{{Kind: api.OpHandle, Listen: "none"}, swapTo(listening("c", "k", "z", "y"))},
			{swapTo(listening("b", "m")), swapTo(listening("d"))},
		},
	}, "m", "b", "z", "a", "k", "c", "y", "d")
	// Thread by thread, not by the numbers of operations.
	named(t, api.Script{
		First:   listening("a"),
		Threads: [][]api.Op{{swapTo(listening("b")), swapTo(listening("d"))}, {swapTo(listening("c")), swapTo(listening("e"))}},
	}, "a", "b", "d", "c", "e")
}

// TestNamesAgain is P8.1 of names that come again, in one configuration and in several.
func TestNamesAgain(t *testing.T) {
	named(t, api.Script{First: wrong("a", "b", "a", "b", "c")}, "a", "b", "c")
	for range 2 {
		s := api.Script{First: listening("b", "a")}
		for i := range 3 {
			s.Threads = append(s.Threads, nil)
			for range 2 {
				s.Threads[i] = append(s.Threads[i], swapTo(listening("a", "b")), swapTo(listening("b", "a", "c")))
			}
		}
		named(t, s, "b", "a", "c")
	}
	// Names that begin or end alike are not the same.
	named(t, api.Script{First: listening("aa", "a", "aaa"), Threads: [][]api.Op{{swapTo(listening("a", "ba", "ab", "aa"))}}}, "aa", "a", "aaa", "ba", "ab")
}

// TestNamesFirst is P8.1 of a First that does not pass: its listeners are named all the same, whatever texts they are.
func TestNamesFirst(t *testing.T) {
	named(t, api.Script{First: wrong("b", "a")}, "b", "a")
	named(t, api.Script{First: api.Config{Listens: []string{"b", "a"}}}, "b", "a")
	named(t, api.Script{First: api.Config{Listens: []string{""}}}, "")
	long := strings.Repeat("a", 1<<16)
	named(t, api.Script{
		First:   wrong("B", "", "a", "\xff", long, "", "*.b", "a", "1"),
		Threads: [][]api.Op{{swapTo(listening("c", "a"))}},
	}, "B", "", "a", "\xff", long, "*.b", "1", "c")
	// As many names as that are told without each being held against all others.
	var many []string
	for i := range 1 << 18 {
		many = append(many, fmt.Sprint("n", i))
	}
	named(t, api.Script{First: api.Config{Listens: slices.Repeat(many, 2)}}, many...)
}

// TestNamesLeftOut is P8.1 of operations whose Config is not asked: those of another Kind, and those of a swap that is rejected.
func TestNamesLeftOut(t *testing.T) {
	for _, kind := range []int{math.MinInt, -3, -1, 0, 1, 2, 3, 4, 5, 6, 7, 1<<32 + 3, math.MaxInt} {
		s := api.Script{First: listening("a"), Threads: [][]api.Op{{{Kind: kind, Config: listening("x", "y")}, swapTo(listening("b"))}}}
		if kind == 3 {
			named(t, s, "a", "x", "y", "b")
		} else {
			named(t, s, "a", "b")
		}
	}
	bad := []api.Config{{}, {Listens: []string{"x"}}, wrong("x"), listening("x", "x"), listening("x", "X"), listening("x", ""), listening("v", "w", "x", "y", "z"), listening("x", strings.Repeat("y", api.MaxName+1))}
	for i, c := range bad {
		named(t, api.Script{First: listening("a"), Threads: [][]api.Op{{swapTo(c), swapTo(listening("b"))}, {swapTo(listening("c")), swapTo(c)}}}, "a", "b", "c")
		// What is rejected once may be named by one that passes, where that one stands.
		named(t, api.Script{First: listening("a"), Threads: [][]api.Op{{swapTo(c)}, {swapTo(listening("b", "x"))}}}, "a", "b", "x")
		if e, _ := config.Check(c); e == api.OK {
			t.Errorf("configuration %d passes", i)
		}
	}
	// Listens of operations that go to one are not asked either.
	named(t, api.Script{First: listening("a"), Threads: [][]api.Op{{{Kind: api.OpDrain, Listen: "x"}, {Kind: api.OpHandle, Listen: "y"}, {Kind: api.OpSwap, Listen: "z", Config: listening("b")}}}}, "a", "b")
}

// TestNamesNotRight is P8.1 of scripts that are not right: they have names all the same.
func TestNamesNotRight(t *testing.T) {
	s := api.Script{First: listening("a"), Threads: make([][]api.Op, 20), Picks: slices.Repeat([]int{-1}, 5000)}
	s.Threads[19] = append(slices.Repeat([]api.Op{{}}, 30), swapTo(listening("b")), swapTo(listening("c")))
	s.Threads[8] = []api.Op{swapTo(listening("d", "c"))}
	is(t, s, false)
	named(t, s, "a", "d", "c", "b")
}

// TestBytes is P8.2 of numbers of each number of parts, written out.
func TestBytes(t *testing.T) {
	isWritten(t, nil, nil, api.OK)
	isWritten(t, []int{}, nil, api.OK)
	isRead(t, nil, nil, api.OK)
	isRead(t, []byte{}, nil, api.OK)
	for _, x := range []struct {
		l []int
		b []byte
	}{
		{[]int{0}, []byte{0}},
		{[]int{1}, []byte{1}},
		{[]int{127}, []byte{127}},
		{[]int{128}, []byte{128, 1}},
		{[]int{129}, []byte{129, 1}},
		{[]int{255}, []byte{255, 1}},
		{[]int{256}, []byte{128, 2}},
		{[]int{300}, []byte{172, 2}},
		{[]int{16383}, []byte{255, 127}},
		{[]int{16384}, []byte{128, 128, 1}},
		{[]int{16385}, []byte{129, 128, 1}},
		{[]int{2097151}, []byte{255, 255, 127}},
		{[]int{2097152}, []byte{128, 128, 128, 1}},
		{[]int{1 << 31}, []byte{128, 128, 128, 128, 8}},
		{[]int{1 << 32}, []byte{128, 128, 128, 128, 16}},
		{[]int{1<<56 - 1}, []byte{255, 255, 255, 255, 255, 255, 255, 127}},
		{[]int{1 << 56}, []byte{128, 128, 128, 128, 128, 128, 128, 128, 1}},
		{[]int{1 << 62}, []byte{128, 128, 128, 128, 128, 128, 128, 128, 64}},
		{[]int{math.MaxInt}, []byte{255, 255, 255, 255, 255, 255, 255, 255, 127}},
		{[]int{math.MaxInt - 127}, []byte{128, 255, 255, 255, 255, 255, 255, 255, 127}},
		{[]int{0, 300}, []byte{0, 172, 2}},
		{[]int{0, 0, 1}, []byte{0, 0, 1}},
		{[]int{128, 0, 16384, 5}, []byte{128, 1, 0, 128, 128, 1, 5}},
	} {
		isWritten(t, x.l, x.b, api.OK)
		isRead(t, x.b, x.l, api.OK)
	}
}

// TestBytesErrors is P8.2 of too many numbers, and of one that is below 0.
func TestBytesErrors(t *testing.T) {
	below := []int{math.MinInt, math.MinInt + 1, math.MinInt32, -1 << 32, -300, -128, -127, -1}
	for _, n := range []int{3999, 4000, 4001, 4002, 8000, 1 << 20} {
		l := make([]int, n)
		if n <= 4000 {
			isWritten(t, l, make([]byte, n), api.OK)
		} else {
			isWritten(t, l, nil, api.ErrLimit)
		}
		for _, i := range []int{0, n / 2, n - 1} {
			for _, x := range below {
				l[i] = x
				if n <= 4000 {
					isWritten(t, l, nil, api.ErrArg)
				} else {
					isWritten(t, l, nil, api.ErrLimit)
				}
			}
			l[i] = 0
		}
	}
	for _, x := range below {
		isWritten(t, []int{x}, nil, api.ErrArg)
		isWritten(t, []int{1, x}, nil, api.ErrArg)
		isWritten(t, []int{x, 1, 2}, nil, api.ErrArg)
	}
	// Numbers count, not their bytes.
	isWritten(t, slices.Repeat([]int{math.MaxInt}, 4000), bytes.Repeat([]byte{255, 255, 255, 255, 255, 255, 255, 255, 127}, 4000), api.OK)
	isWritten(t, slices.Repeat([]int{math.MaxInt}, 4001), nil, api.ErrLimit)
}

// fronts are the bytes of numbers that may stand ahead of a wrong one.
func fronts() [][]byte {
	return [][]byte{nil, {0}, {5}, {127, 0}, {128, 1}, {172, 2, 0}, {255, 255, 255, 255, 255, 255, 255, 255, 127}, make([]byte, 3999), bytes.Repeat([]byte{128, 1}, 3999), make([]byte, 4000), bytes.Repeat([]byte{128, 1}, 4000)}
}

// TestPicksErrors is P8.2 of bytes that are no number's, with numbers ahead of them and behind them.
func TestPicksErrors(t *testing.T) {
	// A number's first parts say nothing of whether it ends well.
	for _, front := range fronts() {
		for parts := 1; parts <= 12; parts++ {
			for _, part := range []byte{128, 129, 200, 255} {
				b := joined(front, bytes.Repeat([]byte{part}, parts))
				isRead(t, b, nil, api.ErrForm)
				isRead(t, joined(b, []byte{0}), nil, api.ErrForm)
				isRead(t, joined(b, []byte{0, 1, 2}), nil, api.ErrForm)
				if parts >= 9 {
					isRead(t, joined(b, []byte{1}), nil, api.ErrForm)
					isRead(t, joined(b, []byte{127, 5}), nil, api.ErrForm)
				}
			}
		}
	}
}

// TestPicksParts is P8.2 of numbers of any number of parts: one to nine are right, and ten are not, however little they say.
func TestPicksParts(t *testing.T) {
	for parts := 1; parts <= 20; parts++ {
		for _, last := range []byte{0, 1, 2, 64, 127} {
			b := append(bytes.Repeat([]byte{128}, parts-1), last)
			if parts <= 9 && (parts == 1 || last != 0) {
				n := int(last) << (7 * (parts - 1))
				isRead(t, b, []int{n}, api.OK)
				isRead(t, joined([]byte{3}, b, []byte{0, 129, 1}), []int{3, n, 0, 129}, api.OK)
			} else {
				isRead(t, b, nil, api.ErrForm)
				isRead(t, joined([]byte{3}, b, []byte{0, 129, 1}), nil, api.ErrForm)
			}
		}
	}
	// A byte 0 is a number alone, and no last byte of another one.
	isRead(t, []byte{0}, []int{0}, api.OK)
	isRead(t, []byte{0, 0, 0}, []int{0, 0, 0}, api.OK)
	isRead(t, []byte{128, 1, 0}, []int{128, 0}, api.OK)
	isRead(t, []byte{128, 0}, nil, api.ErrForm)
	isRead(t, []byte{255, 0}, nil, api.ErrForm)
	// Parts of 0 in between are no last ones.
	isRead(t, []byte{129, 128, 1}, []int{16385}, api.OK)
}

// TestPicksLimit is P8.2 of the bytes of 4000 and of 4001 numbers, with what may stand behind them.
func TestPicksLimit(t *testing.T) {
	bad := [][]byte{{128}, {255}, {128, 0}, {129, 0, 1}, {255, 255, 255, 255, 255, 255, 255, 255, 0}, {255, 255, 255, 255, 255, 255, 255, 255, 255, 1}, bytes.Repeat([]byte{128}, 100)}
	good := [][]byte{{0}, {1}, {128, 1}, {255, 255, 255, 255, 255, 255, 255, 255, 127}}
	for _, x := range []struct {
		n int
		b []byte
	}{{0, []byte{0}}, {127, []byte{127}}, {300, []byte{172, 2}}, {math.MaxInt, []byte{255, 255, 255, 255, 255, 255, 255, 255, 127}}} {
		for _, n := range []int{3998, 3999, 4000, 4001, 4002, 9000} {
			b, l := bytes.Repeat(x.b, n), slices.Repeat([]int{x.n}, n)
			if n <= 4000 {
				isRead(t, b, l, api.OK)
			} else {
				isRead(t, b, nil, api.ErrLimit)
			}
			// Of 4000 numbers and what is no number there is no 4001st one; behind the 4001st one nothing is read.
			for _, tail := range bad {
				want := api.ErrForm
				if n > 4000 {
					want = api.ErrLimit
				}
				isRead(t, joined(b, tail), nil, want)
			}
			for i, tail := range good {
				if n < 4000 {
					isRead(t, joined(b, tail), append(slices.Clone(l), []int{0, 1, 128, math.MaxInt}[i]), api.OK)
					continue
				}
				isRead(t, joined(b, tail), nil, api.ErrLimit)
				for _, end := range bad {
					isRead(t, joined(b, tail, end), nil, api.ErrLimit)
				}
			}
		}
	}
	isRead(t, make([]byte, 1<<22), nil, api.ErrLimit)
	isRead(t, bytes.Repeat([]byte{255}, 1<<22), nil, api.ErrForm)
	// What is wrong ahead of the 4001st number is told, however many stand behind it.
	isRead(t, joined(make([]byte, 3999), []byte{128, 0}, make([]byte, 5000)), nil, api.ErrForm)
	isRead(t, joined([]byte{128, 0}, make([]byte, 5000)), nil, api.ErrForm)
}

// read is P8.2's Picks. The library's own reader of such bytes takes ten of them, and parts of 0 on top.
func read(b []byte) ([]int, api.Errno) {
	var l []int
	for len(b) > 0 {
		n, size := binary.Uvarint(b)
		if size < 1 || size > 9 || size > 1 && b[size-1] == 0 {
			return nil, api.ErrForm
		}
		if len(l) == 4000 {
			return nil, api.ErrLimit
		}
		l, b = append(l, int(n)), b[size:]
	}
	return l, api.OK
}

// isBoth holds b against P8.2, and where it is numbers, against P8.3.
func isBoth(t *testing.T, b []byte) {
	t.Helper()
	want, e := read(b)
	isRead(t, b, want, e)
	if e == api.OK {
		again(t, b)
	}
}

// again holds b, which is numbers' bytes, against P8.3.
func again(t *testing.T, b []byte) {
	t.Helper()
	l, e := Picks(b)
	if e != api.OK {
		t.Errorf("P8.3: %d of %s", e, short(b))
		return
	}
	if back, e := Bytes(l); e != api.OK || !bytes.Equal(back, b) {
		t.Errorf("P8.3: %s, %d; want %s", short(back), e, short(b))
	}
}

// back holds l, which may be picks, against P8.2 and P8.3.
func back(t *testing.T, l []int) {
	t.Helper()
	var want []byte
	for _, n := range l {
		want = binary.AppendUvarint(want, uint64(n))
	}
	isWritten(t, l, want, api.OK)
	b, _ := Bytes(l)
	if got, e := Picks(b); e != api.OK || !slices.Equal(got, l) {
		t.Errorf("P8.3: %s, %d; want %s", short(got), e, short(l))
	}
}

// TestAllBytes is P8.2 and P8.3 of all bytes of up to two, and of all rows of some up to seven.
func TestAllBytes(t *testing.T) {
	for a := range 256 {
		isBoth(t, []byte{byte(a)})
		for b := range 256 {
			isBoth(t, []byte{byte(a), byte(b)})
		}
	}
	some := []byte{0, 1, 127, 128, 129, 255}
	for size, rows := 3, 6*6*6; size <= 7; size, rows = size+1, rows*6 {
		for row := range rows {
			b := make([]byte, size)
			for i := range b {
				b[i] = some[row%6]
				row /= 6
			}
			isBoth(t, b)
		}
	}
}

// TestAgain is P8.3 of numbers about each power of 2, alone, and as many as there may be of them.
func TestAgain(t *testing.T) {
	var l []int
	for i := range 63 {
		for d := -3; d <= 3; d++ {
			if n := 1<<i + d; n >= 0 {
				back(t, []int{n})
				l = append(l, n)
			}
		}
	}
	for n := range 40000 {
		back(t, []int{n})
	}
	back(t, []int{math.MaxInt})
	back(t, nil)
	back(t, l)
	back(t, slices.Repeat(l, 10)[:4000])
	back(t, slices.Repeat([]int{0}, 4000))
	back(t, slices.Repeat([]int{math.MaxInt}, 4000))
}

// TestDrawn is P8.2 and P8.3 of numbers and bytes that are drawn, always the same ones.
func TestDrawn(t *testing.T) {
	r, told := rand.New(rand.NewSource(8)), map[api.Errno]int{}
	for range 20000 {
		var l []int
		for range r.Intn(30) {
			l = append(l, int(r.Uint64()>>(1+r.Intn(63))))
		}
		back(t, l)
		// One byte of them is changed, taken away or added.
		b, _ := Bytes(l)
		at := r.Intn(len(b) + 1)
		switch part := byte(r.Intn(256)) & byte(r.Intn(256)); {
		case at == len(b) || r.Intn(3) == 0:
			b = slices.Insert(b, at, part)
		case r.Intn(2) == 0:
			b[at] = part
		default:
			b = slices.Delete(b, at, at+1)
		}
		isBoth(t, b)
		_, e := Picks(b)
		told[e]++
	}
	for range 300 {
		b := make([]byte, 3990+r.Intn(20))
		for range r.Intn(3) {
			b[len(b)-1-r.Intn(20)] = byte(r.Intn(256))
		}
		isBoth(t, b)
		_, e := Picks(b)
		told[e]++
	}
	for _, e := range []api.Errno{api.OK, api.ErrForm, api.ErrLimit} {
		if told[e] < 30 {
			t.Errorf("only %d bytes were drawn of which %d is told", told[e], e)
		}
	}
}

// TestStays is R2: what is handed in stays as it is, also behind the ends of its lists, and what came out does too.
func TestStays(t *testing.T) {
	s, was := right(), right()
	for range 2 {
		is(t, s, true)
		named(t, s, "web", "admin")
	}
	Names(s)[0] = "x"
	if !reflect.DeepEqual(s, was) {
		t.Errorf("R2: %s became %s", short(was), short(s))
	}
	l := []int{300, 0, 7, 9, 9}
	b, _ := Bytes(l[:3])
	if !slices.Equal(l, []int{300, 0, 7, 9, 9}) {
		t.Errorf("R2: Bytes made %v of it", l)
	}
	long := joined(b, []byte{9, 9})
	got, _ := Picks(long[:4])
	more, _ := Picks([]byte{1, 2, 3, 4})
	if !bytes.Equal(long, []byte{172, 2, 0, 7, 9, 9}) || !slices.Equal(got, l[:3]) || !slices.Equal(more, []int{1, 2, 3, 4}) {
		t.Errorf("R2: %v, %v, %v", long, got, more)
	}
	long[0], l[0] = 5, 5
	if !slices.Equal(got, []int{300, 0, 7}) {
		t.Errorf("R2: what came out became %v", got)
	}
	other, _ := Bytes([]int{1, 2, 3})
	if !bytes.Equal(b, []byte{172, 2, 0, 7}) || !bytes.Equal(other, []byte{1, 2, 3}) {
		t.Errorf("R2: what came out became %v", b)
	}
}
