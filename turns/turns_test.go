package turns

import (
	"fmt"
	"math"
	"math/big"
	"math/rand"
	"slices"
	"testing"

	"hydrant/api"
)

// greatest is the greatest ticket.
const greatest = math.MaxUint64

// short is what x says, but no more of it than somebody would read.
func short(x any) string {
	s := fmt.Sprintf("%+v", x)
	return s[:min(len(s), 300)]
}

// ends is a cluster whose endpoints are healthy where s has an x.
func ends(s string) api.Cluster {
	c := api.Cluster{Name: "app", Policy: api.RoundRobin, Slots: 2}
	for _, b := range []byte(s) {
		c.Health = append(c.Health, b == 'x')
	}
	return c
}

// every are the clusters of all kinds of healths of up to n endpoints.
func every(n int) []api.Cluster {
	l := []api.Cluster{ends("")}
	for from := 0; n > 0; n-- {
		to := len(l)
		for _, c := range l[from:to] {
			l = append(l, api.Cluster{Health: append(slices.Clone(c.Health), false)}, api.Cluster{Health: append(slices.Clone(c.Health), true)})
		}
		from = to
	}
	return l
}

// drawn is a cluster of n endpoints, each of which is healthy or not as r tells.
func drawn(r *rand.Rand, n int) api.Cluster {
	c := api.Cluster{Health: make([]bool, n)}
	for i := range c.Health {
		c.Health[i] = r.Intn(3) > 0
	}
	return c
}

// stays hands c to ask, and holds it against what it was.
func stays(t *testing.T, c api.Cluster, ask func(api.Cluster)) {
	t.Helper()
	was := c
	was.Health = slices.Clone(c.Health)
	behind := slices.Clone(c.Health[:cap(c.Health)])
	ask(c)
	if !slices.Equal(c.Health, was.Health) || !slices.Equal(c.Health[:cap(c.Health)], behind) {
		t.Errorf("R2: %s became %s", short(was), short(c))
	}
}

// healthy holds Healthy of c against want.
func healthy(t *testing.T, c api.Cluster, want ...int) {
	t.Helper()
	stays(t, c, func(c api.Cluster) {
		if l := Healthy(c); !slices.Equal(l, want) {
			t.Errorf("P12.1: Healthy: %s; want %s, of %s", short(l), short(want), short(c))
		}
	})
}

// turn holds Turn of c against want and an error.
func turn(t *testing.T, c api.Cluster, ticket uint64, want int, e api.Errno) {
	t.Helper()
	stays(t, c, func(c api.Cluster) {
		if end, got := Turn(c, ticket); end != want || got != e {
			t.Errorf("P12.1: Turn: %d, %d; want %d, %d, of the ticket %d and %s", end, got, want, e, ticket, short(c))
		}
	})
}

// spread holds Spread of c against want and an error.
func spread(t *testing.T, c api.Cluster, ticket uint64, n int, want []int, e api.Errno) {
	t.Helper()
	stays(t, c, func(c api.Cluster) {
		if l, got := Spread(c, ticket, n); !slices.Equal(l, want) || got != e {
			t.Errorf("P12.2: Spread: %s, %d; want %s, %d, of %d tickets from %d on and %s", short(l), got, short(want), e, n, ticket, short(c))
		}
	})
}

// numbers are P12.1's healthy endpoints: where c's Health is true.
func numbers(c api.Cluster) []int {
	var l []int
	for i := 0; i < len(c.Health); i++ {
		if c.Health[i] {
			l = append(l, i)
		}
	}
	return l
}

// rest is ticket's rest, divided by n, told without the numbers of 64 bits that the program counts by.
func rest(ticket uint64, n int) int {
	whole := new(big.Int).SetUint64(ticket)
	return int(whole.Mod(whole, big.NewInt(int64(n))).Int64())
}

// counted is P12.2's words: how often Turn tells each endpoint, asked ticket by ticket.
func counted(t *testing.T, c api.Cluster, ticket uint64, n int) []int {
	t.Helper()
	l := make([]int, len(c.Health))
	for range n {
		end, e := Turn(c, ticket)
		if e != api.OK || end < 0 || end >= len(l) {
			t.Fatalf("P12.1: Turn: %d, %d, of the ticket %d and %s", end, e, ticket, short(c))
		}
		l[end]++
		if ticket == greatest {
			ticket = 0
		} else {
			ticket++
		}
	}
	return l
}

// tickets are such as a number of healthy endpoints may go wrong at, of n of them: around 0 and n, and at the ends of what 31, 32, 53, 63 and 64 bits hold.
func tickets(n int) []uint64 {
	k := uint64(n)
	l := []uint64{0, 1, 2, k - 1, k, k + 1, 2*k - 1, 2 * k, 2*k + 1}
	for _, end := range []uint64{1 << 31, 1 << 32, 1 << 53, 1 << 63, 0} {
		l = append(l, end-k-1, end-k, end-2, end-1, end, end+1)
	}
	return l
}

// TestHealthy is P12.1 of none, one, some and all of the endpoints that a cluster may have.
func TestHealthy(t *testing.T) {
	healthy(t, api.Cluster{})
	healthy(t, api.Cluster{Health: []bool{}})
	healthy(t, ends("."))
	healthy(t, ends("...."))
	healthy(t, ends("x"), 0)
	healthy(t, ends("x..."), 0)
	healthy(t, ends("..x."), 2)
	healthy(t, ends("...x"), 3)
	healthy(t, ends("x.x"), 0, 2)
	healthy(t, ends(".xx."), 1, 2)
	healthy(t, ends("x.xx"), 0, 2, 3)
	healthy(t, ends("xx"), 0, 1)
	healthy(t, ends("xxxx"), 0, 1, 2, 3)
}

// TestHealthyMany is P12.1 of more endpoints than a configuration may have.
func TestHealthyMany(t *testing.T) {
	healthy(t, ends("....x"), 4)
	healthy(t, ends("xxxxx"), 0, 1, 2, 3, 4)
	healthy(t, ends("x...x...x"), 0, 4, 8)
	for _, c := range every(9) {
		healthy(t, c, numbers(c)...)
	}
	r := rand.New(rand.NewSource(121))
	for _, n := range []int{16, 63, 64, 65, 255, 256, 257, 1000, 1 << 16} {
		c := drawn(r, n)
		healthy(t, c, numbers(c)...)
		healthy(t, api.Cluster{Health: make([]bool, n)})
	}
}

// TestEach is of who ends ahead of the last healthy endpoint: nothing more is told.
func TestEach(t *testing.T) {
	c := ends(".xx.xx")
	for most := 1; most <= 4; most++ {
		var l []int
		for end := range each(c) {
			l = append(l, end)
			if len(l) == most {
				break
			}
		}
		if !slices.Equal(l, []int{1, 2, 4, 5}[:most]) {
			t.Errorf("P12.1: %v", l)
		}
	}
}

// TestHealthAlone is P12.1 and P12.2 of clusters that are not right in all but their Health: it alone is asked.
func TestHealthAlone(t *testing.T) {
	for _, c := range []api.Cluster{{}, {Name: "No name", Policy: 7, Slots: -1}, {Policy: api.LeastRequest}, {Slots: math.MaxInt}, {Name: "app", Policy: math.MinInt, Slots: 1}} {
		c.Health = []bool{false, true, true}
		healthy(t, c, 1, 2)
		turn(t, c, 1, 2, api.OK)
		spread(t, c, 1, 3, []int{0, 1, 2}, api.OK)
		c.Health = []bool{false, false}
		healthy(t, c)
		turn(t, c, 1, 0, api.ErrNone)
		spread(t, c, 1, 3, nil, api.ErrNone)
	}
}

// TestHealthyLength is P12.1 and P12.2 of a list that has more behind its end: that is no endpoint's.
func TestHealthyLength(t *testing.T) {
	c := ends(".xxx")
	c.Health = c.Health[:2]
	healthy(t, c, 1)
	turn(t, c, 1, 1, api.OK)
	spread(t, c, 0, 3, []int{0, 3}, api.OK)
	c.Health = c.Health[:1]
	healthy(t, c)
	turn(t, c, 1, 0, api.ErrNone)
	spread(t, c, 0, 3, nil, api.ErrNone)
}

// TestTurn is P12.1 of tickets 0, 1, one less than there are healthy endpoints, as many, one more, and the greatest one.
func TestTurn(t *testing.T) {
	for _, x := range []struct {
		c      string
		ticket uint64
		want   int
	}{
		{"x", 0, 0}, {"x", 1, 0}, {"x", 2, 0}, {"x", greatest, 0}, {"x", greatest - 1, 0},
		{"...x", 0, 3}, {"...x", 1, 3}, {"...x", 2, 3}, {"...x", greatest, 3},
		{".x.x", 0, 1}, {".x.x", 1, 3}, {".x.x", 2, 1}, {".x.x", 3, 3}, {".x.x", greatest, 3}, {".x.x", greatest - 1, 1},
		{"x.x", 3, 2}, {"x.x", 4, 0}, {"x.x", 5, 2}, {"x.x", 6, 0}, {"x.x", 7, 2},
		// 2^64 - 1 has no rest, divided by 3.
		{"x.xx", 0, 0}, {"x.xx", 1, 2}, {"x.xx", 2, 3}, {"x.xx", 3, 0}, {"x.xx", 4, 2}, {"x.xx", greatest, 0}, {"x.xx", greatest - 1, 3}, {"x.xx", greatest - 2, 2},
		{"xxxx", 0, 0}, {"xxxx", 1, 1}, {"xxxx", 3, 3}, {"xxxx", 4, 0}, {"xxxx", 5, 1}, {"xxxx", greatest, 3},
		// More than there may be; the greatest one has the rest 0 by 5, and 1 by 7.
		{"xxxxx", 4, 4}, {"xxxxx", 5, 0}, {"xxxxx", 6, 1}, {"xxxxx", greatest, 0},
		{".xx.xxxxx", 6, 8}, {".xx.xxxxx", 7, 1}, {".xx.xxxxx", 8, 2}, {".xx.xxxxx", greatest, 2},
		// As the rests are without a sign, and of all 64 bits.
		{"xxx", 1 << 31, 2}, {"xxx", 1 << 32, 1}, {"xxx", 1<<53 + 1, 0}, {"xxx", 1<<63 - 1, 1}, {"xxx", 1 << 63, 2}, {"xxx", 1<<63 + 1, 0},
	} {
		turn(t, ends(x.c), x.ticket, x.want, api.OK)
	}
}

// TestTurnNone is P12.1 where no endpoint is healthy, or there is none.
func TestTurnNone(t *testing.T) {
	for _, c := range []api.Cluster{{}, {Health: []bool{}}, ends("."), ends(".."), ends("...."), ends("....."), {Health: make([]bool, 1000)}} {
		for _, ticket := range []uint64{0, 1, 2, 3, 4, 5, 1 << 63, greatest - 1, greatest} {
			turn(t, c, ticket, 0, api.ErrNone)
		}
	}
}

// TestTurnEach is P12.1 of all kinds of healths, and of many endpoints, by the rest that is told otherwise.
func TestTurnEach(t *testing.T) {
	r := rand.New(rand.NewSource(122))
	l := every(7)
	for _, n := range []int{8, 9, 100, 1000} {
		l = append(l, drawn(r, n))
	}
	for _, c := range l {
		of := numbers(c)
		if len(of) == 0 {
			turn(t, c, r.Uint64(), 0, api.ErrNone)
			continue
		}
		for _, ticket := range append(tickets(len(of)), r.Uint64(), r.Uint64(), r.Uint64()) {
			turn(t, c, ticket, of[rest(ticket, len(of))], api.OK)
		}
	}
}

// TestSpread is P12.2 of numbers of tickets up to the most that may be, with a number for each endpoint, 0 for who is not healthy.
func TestSpread(t *testing.T) {
	for _, x := range []struct {
		c      string
		ticket uint64
		n      int
		want   []int
	}{
		{"x", 0, 0, []int{0}}, {"x", 0, 1, []int{1}}, {"x", 5, 1000, []int{1000}},
		{"x.x", 3, 5, []int{2, 0, 3}},
		{"..x.", 0, 0, []int{0, 0, 0, 0}}, {"..x.", 9, 1, []int{0, 0, 1, 0}}, {"..x.", 9, 1000, []int{0, 0, 1000, 0}},
		{"x.xx", 0, 0, []int{0, 0, 0, 0}}, {"x.xx", 0, 1, []int{1, 0, 0, 0}}, {"x.xx", 1, 1, []int{0, 0, 1, 0}}, {"x.xx", 2, 1, []int{0, 0, 0, 1}}, {"x.xx", 3, 1, []int{1, 0, 0, 0}},
		{"x.xx", 1, 2, []int{0, 0, 1, 1}}, {"x.xx", 2, 2, []int{1, 0, 0, 1}}, {"x.xx", 0, 3, []int{1, 0, 1, 1}}, {"x.xx", 5, 3, []int{1, 0, 1, 1}}, {"x.xx", 2, 4, []int{1, 0, 1, 2}},
		{"x.xx", 0, 999, []int{333, 0, 333, 333}}, {"x.xx", 0, 1000, []int{334, 0, 333, 333}}, {"x.xx", 1, 1000, []int{333, 0, 334, 333}}, {"x.xx", 2, 1000, []int{333, 0, 333, 334}},
		{"xxxx", 0, 1000, []int{250, 250, 250, 250}}, {"xxxx", 7, 999, []int{250, 250, 249, 250}},
		{".xxxxxxx.", 6, 2, []int{0, 1, 0, 0, 0, 0, 0, 1, 0}}, {".xxxxxxx.", 0, 1000, []int{0, 143, 143, 143, 143, 143, 143, 142, 0}},
	} {
		spread(t, ends(x.c), x.ticket, x.n, x.want, api.OK)
	}
}

// TestSpreadRound is P12.2 of tickets that go round behind the greatest one. Where the healthy endpoints do not divide 2^64, somebody's turn comes again too early there.
func TestSpreadRound(t *testing.T) {
	for _, x := range []struct {
		c      string
		ticket uint64
		n      int
		want   []int
	}{
		// 0 ahead of it, and 0 behind it.
		{"xxx", greatest, 1, []int{1, 0, 0}}, {"xxx", greatest, 2, []int{2, 0, 0}}, {"xxx", greatest, 3, []int{2, 1, 0}}, {"xxx", greatest, 4, []int{2, 1, 1}},
		{"xxx", greatest - 1, 1, []int{0, 0, 1}}, {"xxx", greatest - 1, 2, []int{1, 0, 1}}, {"xxx", greatest - 1, 3, []int{2, 0, 1}}, {"xxx", greatest - 2, 4, []int{2, 1, 1}},
		{".xx.x", greatest, 2, []int{0, 2, 0, 0, 0}}, {".xx.x", greatest - 3, 5, []int{0, 3, 1, 0, 1}},
		{"xxx", greatest, 1000, []int{334, 333, 333}}, {"xxx", greatest - 1, 1000, []int{334, 333, 333}}, {"xxx", greatest - 499, 1000, []int{334, 333, 333}}, {"xxx", greatest - 500, 1000, []int{334, 333, 333}},
		{"xxx", greatest - 498, 998, []int{334, 332, 332}},
		{"xxxxx", greatest, 2, []int{2, 0, 0, 0, 0}}, {"xxxxx", greatest - 1, 4, []int{2, 1, 0, 0, 1}},
		// The greatest one's rest is 1 by 7, and 3 by 6.
		{"xxxxxxx", greatest, 2, []int{1, 1, 0, 0, 0, 0, 0}}, {"xxxxxxx", greatest - 1, 4, []int{2, 2, 0, 0, 0, 0, 0}},
		{"xxxxxx", greatest, 5, []int{1, 1, 1, 2, 0, 0}},
		// Who divides 2^64 does not notice.
		{"x", greatest, 1000, []int{1000}}, {"xx", greatest, 2, []int{1, 1}}, {"xx", greatest, 3, []int{1, 2}}, {"xxxx", greatest - 1, 4, []int{1, 1, 1, 1}}, {"xxxx", greatest, 1000, []int{250, 250, 250, 250}},
	} {
		spread(t, ends(x.c), x.ticket, x.n, x.want, api.OK)
	}
}

// TestSpreadErrors is P12.2 of numbers of tickets that may not be, with and without healthy endpoints, and of no healthy endpoint.
func TestSpreadErrors(t *testing.T) {
	bad := []int{-1, -2, -1000, -1001, 1001, 1002, 2000, 1 << 16, 1 << 32, 1<<32 + 1, 1<<32 + 1000, -1 << 32, math.MinInt32, math.MaxInt32, math.MinInt, math.MinInt + 1, math.MaxInt - 1, math.MaxInt}
	for _, c := range []api.Cluster{{}, ends("."), ends("...."), ends("....."), ends("x"), ends("x.xx"), ends("xxxxx")} {
		for _, ticket := range []uint64{0, 1, 1 << 63, greatest} {
			for _, n := range bad {
				spread(t, c, ticket, n, nil, api.ErrArg)
			}
		}
	}
	for _, c := range []api.Cluster{{}, {Health: []bool{}}, ends("."), ends("...."), ends("....."), {Health: make([]bool, 1000)}} {
		for _, ticket := range []uint64{0, 1, 1 << 63, greatest} {
			for _, n := range []int{0, 1, 2, 999, 1000} {
				spread(t, c, ticket, n, nil, api.ErrNone)
			}
		}
	}
}

// TestSpreadTurns is P12.2: what Spread tells is what Turn tells, ticket by ticket.
func TestSpreadTurns(t *testing.T) {
	r := rand.New(rand.NewSource(123))
	for _, c := range every(6) {
		k := len(numbers(c))
		if k == 0 {
			continue
		}
		for _, ticket := range append(tickets(k), r.Uint64()) {
			for _, n := range []int{0, 1, k - 1, k, k + 1, r.Intn(30)} {
				spread(t, c, ticket, n, counted(t, c, ticket, n), api.OK)
			}
		}
	}
	for range 300 {
		c := drawn(r, 1+r.Intn(40))
		if len(numbers(c)) == 0 {
			continue
		}
		n := []int{0, 1, r.Intn(1001), 999, 1000}[r.Intn(5)]
		ticket := []uint64{r.Uint64(), uint64(r.Intn(9)), -uint64(r.Intn(1001)), 1<<63 - uint64(r.Intn(1001))}[r.Intn(4)]
		spread(t, c, ticket, n, counted(t, c, ticket, n), api.OK)
	}
}

// even holds P12.3: n tickets from ticket on, that do not go round, are of healthy endpoints alone, and any two of these have as many, but for one.
func even(t *testing.T, c api.Cluster, ticket uint64, n int) {
	t.Helper()
	l, e := Spread(c, ticket, n)
	if e != api.OK || len(l) != len(c.Health) {
		t.Fatalf("P12.3: Spread: %s, %d, of %d tickets from %d on and %s", short(l), e, n, ticket, short(c))
	}
	sum, least, most := 0, math.MaxInt, 0
	for end, turns := range l {
		if !c.Health[end] && turns != 0 {
			t.Errorf("P12.3: %d turns of %d, which is not healthy, of %s", turns, end, short(c))
		}
		sum += turns
		if c.Health[end] {
			least, most = min(least, turns), max(most, turns)
		}
	}
	if sum != n || most-least > 1 {
		t.Errorf("P12.3: %s are not even, of %d tickets from %d on and %s", short(l), n, ticket, short(c))
	}
}

// TestEven is P12.3 of tickets that do not go round, up to the greatest one itself.
func TestEven(t *testing.T) {
	r := rand.New(rand.NewSource(124))
	l := every(6)
	for _, n := range []int{9, 20, 999, 1000, 1001, 2000} {
		l = append(l, drawn(r, n))
	}
	for _, c := range l {
		if len(numbers(c)) == 0 {
			continue
		}
		for _, n := range []int{0, 1, 2, 3, 4, 5, 6, 7, 29, 30, 31, 999, 1000} {
			for _, ticket := range []uint64{0, 1, 2, uint64(r.Intn(1000)), 1<<63 - 3, 1 << 63, greatest - uint64(max(n, 1)), greatest - uint64(max(n, 1)) + 1} {
				even(t, c, ticket, n)
			}
		}
	}
}

// TestOnlyHealthy is P12.3 of whoever's turn it is: endpoints one behind the other, all of them healthy.
func TestOnlyHealthy(t *testing.T) {
	for _, c := range every(6) {
		of := numbers(c)
		if len(of) == 0 {
			continue
		}
		for _, first := range []uint64{0, 1, 1 << 63, greatest - 100} {
			at := -1
			for ticket := first; ticket < first+20; ticket++ {
				end, e := Turn(c, ticket)
				now := slices.Index(of, end)
				if e != api.OK || now < 0 || at >= 0 && now != (at+1)%len(of) {
					t.Errorf("P12.3: %d, %d, of the ticket %d, behind the place %d, of %s", end, e, ticket, at, short(c))
				}
				at = now
			}
		}
	}
}

// TestOwn is of who writes to lists that were told: to nothing that was handed in, and to nothing that is told later.
func TestOwn(t *testing.T) {
	c := ends("x.xx")
	l, k := Healthy(c), Healthy(c)
	l[0], l[1], l[2] = 9, 9, 9
	_ = append(l, 7, 7, 7)
	if !slices.Equal(k, []int{0, 2, 3}) {
		t.Errorf("R2: %v", k)
	}
	healthy(t, c, 0, 2, 3)
	turn(t, c, 1, 2, api.OK)

	l, _ = Spread(c, 0, 7)
	k, _ = Spread(c, 0, 7)
	for i := range l {
		l[i] = 9
	}
	_ = append(l, 7, 7, 7)
	if !slices.Equal(k, []int{3, 0, 2, 2}) {
		t.Errorf("R2: %v", k)
	}
	spread(t, c, 0, 7, []int{3, 0, 2, 2}, api.OK)
	spread(t, c, 0, 0, []int{0, 0, 0, 0}, api.OK)

	// What was told stays, too, when a cluster becomes another one.
	l = Healthy(c)
	clear(c.Health)
	if !slices.Equal(l, []int{0, 2, 3}) || !slices.Equal(k, []int{3, 0, 2, 2}) {
		t.Errorf("R2: %v and %v", l, k)
	}
	healthy(t, c)
}
