package cell

import (
	"math"
	"strconv"
	"strings"
	"sync"
	"sync/atomic"
	"testing"
)

type pair struct {
	name string
	n    int
}

type holder struct{ any any }

type fault struct{ text string }

func (f fault) Error() string { return f.text }

// expect tells by its promise what is not as it should be.
func expect(t *testing.T, what string, ok bool) {
	t.Helper()
	if !ok {
		t.Error(what)
	}
}

// together runs f in n goroutines at a time, and waits for all of them.
func together(n int, f func(i int)) {
	var all sync.WaitGroup
	for i := range n {
		all.Go(func() { f(i) })
	}
	all.Wait()
}

// long is a text of its own memory that takes a while to be held against another such one.
func long() string { return strings.Repeat("a", 1<<17) }

// ordinary takes a cell of a type through each access; a, b and z differ.
func ordinary[T comparable](t *testing.T, a, b, z T) {
	t.Helper()
	c := New(a)
	expect(t, "P2.1: New(v) has v", c.Load() == a)
	expect(t, "P2.1: Load leaves it", c.Load() == a)
	c.Store(b)
	expect(t, "P2.1: Store(v): it has v then", c.Load() == b)
	expect(t, "P2.1: Swap tells what it had", c.Swap(z) == b)
	expect(t, "P2.1: Swap(v): it has v then", c.Load() == z)
	expect(t, "P2.1: Cas of what it has is true", c.Cas(z, a))
	expect(t, "P2.1: Cas(was, v): it has v then", c.Load() == a)
	expect(t, "P2.1: Cas of what it had is false", !c.Cas(z, b))
	expect(t, "P2.1: Cas of what it never had is false", !c.Cas(b, b))
	expect(t, "P2.1: a Cas that is false leaves it", c.Load() == a)
	expect(t, "P2.1: Cas of what it has, by itself, is true", c.Cas(a, a) && c.Load() == a)
	expect(t, "P2.2: each of them is counted", c.Accesses() == 13)
}

// TestOrdinary is P2.1 and P2.2, of several types of values.
func TestOrdinary(t *testing.T) {
	x, y := 1, 1
	ordinary(t, 1, 2, 0)
	ordinary(t, int8(-128), 127, 0)
	ordinary(t, uint64(1), math.MaxUint64, 0)
	ordinary(t, "a", "", "a ")
	ordinary(t, 0.5, math.Inf(1), -1)
	ordinary(t, 1+2i, 2+1i, 0)
	ordinary(t, [2]string{"a", "b"}, [2]string{"b", "a"}, [2]string{})
	ordinary(t, pair{"a", 1}, pair{"a", 2}, pair{"b", 1})
	ordinary(t, &x, &y, nil)
	ordinary[any](t, 1, "1", nil)
	ordinary[error](t, fault{"a"}, fault{"b"}, nil)
	ordinary(t, New(1), New(1), nil)
}

// TestBool is P2.1, of a type that has but two values.
func TestBool(t *testing.T) {
	c := New(false)
	expect(t, "P2.1: Cas(true, ..) of false", !c.Cas(true, true))
	expect(t, "P2.1: Cas(false, true) of false", c.Cas(false, true))
	expect(t, "P2.1: Swap of true", c.Swap(false))
	expect(t, "P2.1: Load of false", !c.Load())
}

// TestOneValue is P2.1 and P2.2, of a type that has but one value: its Cas is always true.
func TestOneValue(t *testing.T) {
	c := New(struct{}{})
	c.Store(struct{}{})
	expect(t, "P2.1: Cas of the one value", c.Cas(struct{}{}, struct{}{}) && c.Cas(c.Load(), c.Swap(struct{}{})))
	expect(t, "P2.2: of the one value", c.Accesses() == 5)
}

// TestByValue is P2.1: a Cas asks for a value, not for the place where that lies.
func TestByValue(t *testing.T) {
	c := New("ab")
	expect(t, "P2.1: Cas of an equal text", c.Cas(string([]byte{'a', 'b'}), "c"))
	p := New(pair{"a", 1})
	expect(t, "P2.1: Cas of an equal struct", p.Cas(pair{string([]byte{'a'}), 1}, pair{}))
}

// TestPutAgain is P2.1: a Cas of a value that went, and was put there again, is true.
func TestPutAgain(t *testing.T) {
	for _, put := range []func(*Cell[int]){
		func(c *Cell[int]) { c.Store(2); c.Store(1) },
		func(c *Cell[int]) { c.Swap(2); c.Swap(1) },
		func(c *Cell[int]) { c.Cas(1, 2); c.Cas(2, 1) },
		func(c *Cell[int]) { c.Store(1) },
		func(c *Cell[int]) { c.Cas(1, 1) },
	} {
		c := New(1)
		was := c.Load()
		put(c)
		expect(t, "P2.1: Cas of what was put there again", c.Cas(was, 3) && c.Load() == 3)
	}
}

// TestNotEven is P2.1: what is not even the same as itself is never had by a Cas, and can be stored nevertheless.
func TestNotEven(t *testing.T) {
	c := New(math.NaN())
	expect(t, "P2.1: Cas of NaN", !c.Cas(math.NaN(), 1) && math.IsNaN(c.Load()))
	c.Store(0)
	expect(t, "P2.1: Cas of -0 where 0 is", c.Cas(math.Copysign(0, -1), 5) && c.Load() == 5)
}

// TestNotCompared is P2.1, P2.2 and R1: values at whose comparing Go panics are not had, no call panics at them, and each is counted.
func TestNotCompared(t *testing.T) {
	c := New[any]([]int{1})
	expect(t, "P2.1: Cas of a slice", !c.Cas([]int{1}, 2))
	expect(t, "P2.1: Cas of another type", !c.Cas(1, 2))
	l, ok := c.Swap(map[int]int{}).([]int)
	expect(t, "P2.1: Swap of a slice", ok && len(l) == 1 && l[0] == 1)
	expect(t, "P2.1: Cas of a map", !c.Cas(map[int]int{}, 2))
	c.Store(func() {})
	expect(t, "P2.1: Cas of a function", !c.Cas(c.Load(), 2))
	c.Store(3)
	expect(t, "P2.1: Cas of a number behind them", c.Cas(3, 4) && c.Load() == any(4))
	expect(t, "P2.2: of them", c.Accesses() == 10)

	h := New(holder{[]int{}})
	expect(t, "P2.1: Cas of a struct with a slice in its interface", !h.Cas(holder{[]int{}}, holder{}))
	h.Store(holder{1})
	expect(t, "P2.1: Cas of a struct with a number in its interface", h.Cas(holder{1}, holder{2}))
	expect(t, "P2.2: of structs", h.Accesses() == 3)
}

// TestAccesses is P2.2: each kind of access is counted once, a Cas that is false too; New and Accesses are none.
func TestAccesses(t *testing.T) {
	c := New(1)
	expect(t, "P2.2: New is no access", c.Accesses() == 0)
	for i, x := range []struct {
		what string
		do   func()
	}{
		{"Load", func() { c.Load() }},
		{"Store", func() { c.Store(2) }},
		{"Store of what it has", func() { c.Store(2) }},
		{"Swap", func() { c.Swap(3) }},
		{"Cas that is true", func() { c.Cas(3, 4) }},
		{"Cas that is false", func() { c.Cas(3, 5) }},
		{"Cas that is false again", func() { c.Cas(3, 5) }},
		{"Load again", func() { c.Load() }},
	} {
		x.do()
		expect(t, "P2.2: "+x.what, c.Accesses() == i+1)
		expect(t, "P2.2: Accesses is no access, behind "+x.what, c.Accesses() == i+1)
	}
}

// nilCell is each call on a nil cell of a type with that zero value, and with another value.
func nilCell[T comparable](t *testing.T, zero, other T) {
	t.Helper()
	var c *Cell[T]
	expect(t, "P2.1: a nil cell's Load", c.Load() == zero)
	c.Store(other)
	expect(t, "P2.1: a nil cell's Load behind a Store", c.Load() == zero)
	expect(t, "P2.1: a nil cell's Swap", c.Swap(other) == zero && c.Swap(other) == zero)
	expect(t, "P2.1: a nil cell's Cas of the zero value", c.Cas(zero, other) && c.Cas(zero, other))
	expect(t, "P2.1: a nil cell's Cas of what was stored", !c.Cas(other, zero) && !c.Cas(other, other))
	expect(t, "P2.1: a nil cell's Load behind all", c.Load() == zero)
	expect(t, "P2.2: a nil cell's Accesses", c.Accesses() == 0)
}

// TestNil is P2.1 and P2.2 of nil cells.
func TestNil(t *testing.T) {
	x := 1
	nilCell(t, 0, 1)
	nilCell(t, "", "x")
	nilCell(t, false, true)
	nilCell(t, [2]int{}, [2]int{0, 1})
	nilCell(t, pair{}, pair{"a", 0})
	nilCell(t, nil, &x)
	nilCell[any](t, nil, 0)
	nilCell[error](t, nil, fault{})
	var c *Cell[any]
	c.Store([]int{1})
	expect(t, "P2.1: a nil cell's Cas of a slice", !c.Cas([]int{1}, 1))
	var n *Cell[float64]
	expect(t, "P2.1: a nil cell's Cas of NaN", !n.Cas(math.NaN(), 1))
}

// TestApart is P2.1 and P2.2: what is done to one cell does nothing to another, nor to what it was made of.
func TestApart(t *testing.T) {
	v := [2]int{1, 2}
	a, b := New(v), New(v)
	a.Store([2]int{3, 4})
	a.Cas([2]int{3, 4}, [2]int{5, 6})
	v[0] = 9
	expect(t, "P2.1: the other cell's value", b.Load() == [2]int{1, 2})
	expect(t, "P2.1: the cell's own value", a.Load() == [2]int{5, 6})
	expect(t, "P2.2: the other cell's count", b.Accesses() == 1)
	expect(t, "P2.2: the cell's own count", a.Accesses() == 3)
	got := a.Load()
	got[0] = 7
	expect(t, "P2.1: what came out is apart", a.Load() == [2]int{5, 6})
	was := b.Swap([2]int{8, 8})
	b.Store([2]int{})
	expect(t, "P2.1: what came out stays", was == [2]int{1, 2})
}

// TestLast is P2.3: of some that were stored, in whatever way, the last one is had.
func TestLast(t *testing.T) {
	c := New(0)
	for n := 1; n < 1000; n++ {
		switch n % 3 {
		case 0:
			c.Store(n)
		case 1:
			expect(t, "P2.3: Swap tells the last one", c.Swap(n) == n-1)
		case 2:
			expect(t, "P2.3: Cas of the last one", c.Cas(n-1, n))
		}
		expect(t, "P2.3: Load tells the last one", c.Load() == n)
	}
}

// TestSumTogether is P2.1 and P2.2: no Cas of many goroutines is lost, and each access of theirs is counted.
func TestSumTogether(t *testing.T) {
	const threads, times = 8, 500
	c := New(0)
	accesses := [threads]int{}
	together(threads, func(i int) {
		for range times {
			for done := false; !done; accesses[i] += 2 {
				x := c.Load()
				done = c.Cas(x, x+1)
			}
		}
	})
	want := 0
	for _, n := range accesses {
		want += n
	}
	expect(t, "P2.2: all accesses are counted", c.Accesses() == want)
	expect(t, "P2.1: no Cas is lost", c.Load() == threads*times)
}

// TestOneWins is P2.1: of many goroutines whose Cas asks for one value, just one is true. The values are long, so that the goroutines hold them against each other at the same time.
func TestOneWins(t *testing.T) {
	const threads, rounds = 8, 100
	at := func(round int) string { return long() + strconv.Itoa(round) }
	c := New(at(0))
	wins := [threads]int{}
	for round := range rounds {
		was, next := at(round), at(round+1)
		together(threads, func(i int) {
			if c.Cas(was, next) {
				wins[i]++
			}
		})
		expect(t, "P2.1: one of them wrote", c.Load() == next)
	}
	sum := 0
	for _, n := range wins {
		sum += n
	}
	expect(t, "P2.1: one true Cas a round", sum == rounds)
	expect(t, "P2.2: the false ones are counted too", c.Accesses() == rounds*(threads+1))
}

// TestSwapTogether is P2.3: each value that was swapped in, and the first one, comes out once, but for the last.
func TestSwapTogether(t *testing.T) {
	const threads, times = 8, 500
	c := New(-1)
	out := [threads][]int{}
	together(threads, func(i int) {
		for k := range times {
			out[i] = append(out[i], c.Swap(times*i+k))
		}
	})
	seen := map[int]int{c.Load(): 1}
	for _, l := range out {
		for _, x := range l {
			seen[x]++
		}
	}
	for x := -1; x < threads*times; x++ {
		if seen[x] != 1 {
			t.Errorf("P2.3: %d came out, or is had, %d times", x, seen[x])
		}
	}
	expect(t, "P2.3: nothing else came out", len(seen) == threads*times+1)
	expect(t, "P2.2: all swaps are counted", c.Accesses() == threads*times+1)
}

// TestStoredAgainTogether is P2.1: a Cas of what the cell has all the time is true, though others store it again and again. The values are long, so that they do so while it compares.
func TestStoredAgainTogether(t *testing.T) {
	const threads, times = 8, 100
	c := New(long())
	together(threads, func(int) {
		same := long()
		for range times {
			c.Store(same)
			if !c.Cas(same, same) {
				t.Error("P2.1: a Cas of what is had all the time was false")
			}
		}
	})
	expect(t, "P2.2: all are counted", c.Accesses() == 2*threads*times)
}

// TestWhole is P2.1: nobody ever loads a value of which half is another one's.
func TestWhole(t *testing.T) {
	const threads, times = 8, 500
	c := New([4]int{})
	together(threads, func(i int) {
		for k := range times {
			n := times*i + k
			c.Store([4]int{n, n, n, n})
			if v := c.Load(); v != [4]int{v[0], v[0], v[0], v[0]} {
				t.Errorf("P2.1: half a value: %v", v)
			}
		}
	})
}

// TestCountedAhead is P2.2: who sees what an access did finds it counted, and what was counted stays so.
func TestCountedAhead(t *testing.T) {
	const times = 20000
	c := New(0)
	together(2, func(i int) {
		last := 0
		for n := range times {
			if i == 0 {
				c.Store(n + 1)
			}
			if i == 1 {
				v := c.Load()
				if stores := c.Accesses() - n - 1; v > stores {
					t.Errorf("P2.2: the store %d is had, and %d are counted", v, stores)
				}
			}
			now := c.Accesses()
			if now <= last || now <= n {
				t.Errorf("P2.2: %d are counted behind %d, and %d of its own", now, last, n+1)
			}
			last = now
		}
	})
	expect(t, "P2.2: all are counted", c.Accesses() == 2*times)
}

// TestLongCas is P2.1 and R1: a Cas that takes long to compare comes to its end, and is true, though others load all the time.
func TestLongCas(t *testing.T) {
	const threads, times = 8, 200
	even, odd := long()+"0", long()+"1"
	c := New(even)
	var over atomic.Bool
	together(threads, func(i int) {
		if i > 0 {
			for !over.Load() {
				c.Load()
			}
			return
		}
		defer over.Store(true)
		for range times {
			if !c.Cas(strings.Clone(even), odd) || !c.Cas(strings.Clone(odd), even) {
				t.Error("P2.1: a Cas of the only one that writes was false")
			}
		}
	})
	expect(t, "P2.1: all of them wrote", c.Load() == even)
}

// TestNilTogether is P2.1 and P2.2: a nil cell may be come to by many goroutines too.
func TestNilTogether(t *testing.T) {
	var c *Cell[int]
	together(8, func(i int) {
		for range 100 {
			c.Store(i + 1)
			if c.Load() != 0 || c.Swap(i+1) != 0 || !c.Cas(0, i+1) || c.Cas(i+1, 0) {
				t.Error("P2.1: a nil cell is not as one of 0")
			}
		}
	})
	expect(t, "P2.2: a nil cell counts nothing", c.Accesses() == 0)
}
