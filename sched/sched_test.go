package sched

import (
	"fmt"
	"math"
	"math/rand"
	"slices"
	"testing"

	"hydrant/api"
)

// short is what x says, but no more of it than somebody would read.
func short(x any) string {
	s := fmt.Sprintf("%v", x)
	return s[:min(len(s), 200)]
}

// picked holds the pick of p and alive against want and an error.
func picked(t *testing.T, p int, alive []int, want int, e api.Errno) {
	t.Helper()
	if n, got := Pick(p, alive); n != want || got != e {
		t.Errorf("P9.1: Pick: %d, %d; want %d, %d, of %d and %s", n, got, want, e, p, short(alive))
	}
}

// rounds holds the rounds of threads and n against want and an error.
func rounds(t *testing.T, threads, n int, want []int, e api.Errno) {
	t.Helper()
	if l, got := Round(threads, n); !slices.Equal(l, want) || got != e {
		t.Errorf("P9.1: Round: %s, %d; want %s, %d, of %d and %d", short(l), got, short(want), e, threads, n)
	}
}

// round is a round that there is.
func round(t *testing.T, threads, n int) []int {
	t.Helper()
	l, e := Round(threads, n)
	if e != api.OK {
		t.Fatalf("P9.1: Round: the error %d, of %d and %d", e, threads, n)
	}
	return l
}

// fair holds whether order is fair against want.
func fair(t *testing.T, order []int, threads, bound int, want bool) {
	t.Helper()
	if Fair(order, threads, bound) != want {
		t.Errorf("P9.2: Fair: %t is not so of %d threads by %d, of %s", !want, threads, bound, short(order))
	}
}

// most holds the least bound of order against want, and by it which bounds order is fair by.
func most(t *testing.T, order []int, threads, want int) {
	t.Helper()
	if n := Most(order, threads); n != want {
		t.Errorf("P9.2: Most: %d; want %d, of %d threads and %s", n, want, threads, short(order))
	}
	for _, bound := range bounds(want) {
		fair(t, order, threads, bound, want >= 1 && bound >= want)
	}
}

// bounds are some about least, and the ones at the ends of what they may be.
func bounds(least int) []int {
	return []int{math.MinInt, math.MinInt + 1, math.MinInt32, -1, 0, 1, 2, least - 2, least - 1, least, least + 1, least + 2, math.MaxInt32, 1 << 32, math.MaxInt - 1, math.MaxInt}
}

// isFair is what P9.2 says, word by word: threads and bound, and each bound numbers that follow one another.
func isFair(order []int, threads, bound int) bool {
	if threads < 1 || bound < 1 {
		return false
	}
	for from := 0; from+bound <= len(order); from++ {
		for thread := range threads {
			if !slices.Contains(order[from:from+bound], thread) {
				return false
			}
		}
	}
	return true
}

// leastOf is what P9.2 says, word by word: the least bound by which order is fair.
func leastOf(order []int, threads int) int {
	if threads < 1 {
		return 0
	}
	bound := 1
	for !isFair(order, threads, bound) {
		bound++
	}
	return bound
}

// orders calls f with all orders of that length at most, of numbers from the lowest to the highest one.
func orders(length, lowest, highest int, f func(order []int)) {
	var order []int
	var more func()
	more = func() {
		f(order)
		if len(order) == length {
			return
		}
		for n := lowest; n <= highest; n++ {
			order = append(order, n)
			more()
			order = order[:len(order)-1]
		}
	}
	more()
}

// TestPick is P9.1 of picks of one and of several that are alive.
func TestPick(t *testing.T) {
	for _, x := range []struct {
		p     int
		alive []int
		want  int
	}{
		{0, []int{3}, 3},
		{1, []int{3}, 3},
		{2, []int{3}, 3},
		{math.MaxInt, []int{3}, 3},
		{0, []int{5, 6}, 5},
		{1, []int{5, 6}, 6},
		{2, []int{5, 6}, 5},
		{3, []int{5, 6}, 6},
		{math.MaxInt - 1, []int{5, 6}, 5},
		{math.MaxInt, []int{5, 6}, 6},
		{0, []int{1, 4, 7}, 1},
		{2, []int{1, 4, 7}, 7},
		{3, []int{1, 4, 7}, 1},
		{4, []int{1, 4, 7}, 4},
		{300, []int{1, 4, 7}, 1},
		{math.MaxInt, []int{1, 4, 7}, 4}, // 2^63 - 1 has the rest 1, divided by 3
		{7, []int{0, 1, 2, 3, 4, 5, 6, 7}, 7},
		{8, []int{0, 1, 2, 3, 4, 5, 6, 7}, 0},
		{math.MaxInt, []int{0, 1, 2, 3, 4, 5, 6, 7}, 7},
	} {
		picked(t, x.p, x.alive, x.want, api.OK)
	}
}

// TestPickAny is P9.1 of what is alive in any order, of any numbers, and of more than there may be threads: the place alone is asked.
func TestPickAny(t *testing.T) {
	alive := []int{9, -1, 9, math.MaxInt, 0, math.MinInt, 4, 4, 1, 1 << 40, 2, 7}
	for n := 1; n <= len(alive); n++ {
		for p := range 5 * n {
			picked(t, p, alive[:n], alive[p%n], api.OK)
		}
		for _, p := range []int{math.MaxInt32, 1 << 32, 1<<32 + 1, math.MaxInt - 2, math.MaxInt - 1, math.MaxInt} {
			picked(t, p, alive[:n], alive[p%n], api.OK)
		}
	}
	long := make([]int, 1<<16)
	for i := range long {
		long[i] = -i
	}
	for _, p := range []int{0, 1, 1<<16 - 1, 1 << 16, 1<<16 + 1, 1<<32 - 1, 1 << 32, math.MaxInt} {
		picked(t, p, long, -(p % (1 << 16)), api.OK)
	}
}

// TestPickErrors is P9.1 of a pick below 0, of nobody alive, and of both.
func TestPickErrors(t *testing.T) {
	for _, p := range []int{math.MinInt, math.MinInt + 1, math.MinInt32, -1 << 32, -300, -8, -3, -2, -1} {
		for _, alive := range [][]int{nil, {}, {0}, {5}, {5, 6}, {5, 6, 8}, {1, 2, 3, 4, 5, 6, 7, 8}} {
			picked(t, p, alive, 0, api.ErrArg)
		}
	}
	for _, p := range []int{0, 1, 2, 300, 1 << 32, math.MaxInt - 1, math.MaxInt} {
		picked(t, p, nil, 0, api.ErrNone)
		picked(t, p, []int{}, 0, api.ErrNone)
		picked(t, p, []int{5}[:0], 0, api.ErrNone)
	}
}

// TestRound is P9.1 of rounds, written out.
func TestRound(t *testing.T) {
	rounds(t, 1, 0, nil, api.OK)
	rounds(t, 8, 0, nil, api.OK)
	rounds(t, 1, 1, []int{0}, api.OK)
	rounds(t, 8, 1, []int{0}, api.OK)
	rounds(t, 1, 2, []int{0, 0}, api.OK)
	rounds(t, 1, 5, []int{0, 0, 0, 0, 0}, api.OK)
	rounds(t, 2, 1, []int{0}, api.OK)
	rounds(t, 2, 2, []int{0, 1}, api.OK)
	rounds(t, 2, 3, []int{0, 1, 0}, api.OK)
	rounds(t, 2, 5, []int{0, 1, 0, 1, 0}, api.OK)
	rounds(t, 3, 7, []int{0, 1, 2, 0, 1, 2, 0}, api.OK)
	rounds(t, 8, 7, []int{0, 1, 2, 3, 4, 5, 6}, api.OK)
	rounds(t, 8, 8, []int{0, 1, 2, 3, 4, 5, 6, 7}, api.OK)
	rounds(t, 8, 9, []int{0, 1, 2, 3, 4, 5, 6, 7, 0}, api.OK)
	rounds(t, 8, 17, []int{0, 1, 2, 3, 4, 5, 6, 7, 0, 1, 2, 3, 4, 5, 6, 7, 0}, api.OK)
}

// TestRoundAll is P9.1 of all threads that there may be, and of as many numbers as one may ask for.
func TestRoundAll(t *testing.T) {
	for threads := 1; threads <= 8; threads++ {
		var want []int
		for i := range 4000 {
			want = append(want, i%threads)
		}
		for _, n := range []int{0, 1, 2, threads - 1, threads, threads + 1, 2*threads - 1, 2 * threads, 2*threads + 1, 100, 3999, 4000} {
			rounds(t, threads, n, want[:n], api.OK)
		}
	}
}

// TestRoundErrors is P9.1 of threads, or a number of numbers, that there may not be.
func TestRoundErrors(t *testing.T) {
	right := []int{1, 2, 7, 8}
	wrong := []int{math.MinInt, math.MinInt + 1, math.MinInt32, -1 << 32, -9, -8, -1, 0, 9, 10, 16, 256, 257, 4000, math.MaxInt32, 1<<32 + 1, math.MaxInt}
	wrongN := []int{math.MinInt, math.MinInt + 1, math.MinInt32, -1 << 32, -4000, -2, -1, 4001, 4002, 8000, math.MaxInt32, 1 << 32, 1<<32 + 1, math.MaxInt}
	for _, threads := range wrong {
		for _, n := range []int{0, 1, 8, 9, 3999, 4000} {
			rounds(t, threads, n, nil, api.ErrArg)
		}
	}
	for _, n := range wrongN {
		for _, threads := range right {
			rounds(t, threads, n, nil, api.ErrArg)
		}
		for _, threads := range wrong {
			rounds(t, threads, n, nil, api.ErrArg)
		}
	}
}

// TestMost is P9.2 of orders, written out: the least bound of each, and that it is fair by that one and by those above it, and by no other.
func TestMost(t *testing.T) {
	for _, x := range []struct {
		order   []int
		threads int
		want    int
	}{
		// The empty order is shorter than any bound.
		{nil, 1, 1},
		{[]int{}, 1, 1},
		{nil, 8, 1},
		{nil, math.MaxInt, 1},
		// A thread waits in the front, in between, or up to the end.
		{[]int{0}, 1, 1},
		{[]int{0, 0, 0}, 1, 1},
		{[]int{0, 1}, 2, 2},
		{[]int{0, 1, 0, 1}, 2, 2},
		{[]int{0, 1, 1, 0}, 2, 3},
		{[]int{0, 0, 0, 1, 0}, 2, 4},
		{[]int{0, 1, 0, 0, 0}, 2, 4},
		{[]int{1, 0, 0, 0, 1}, 2, 4},
		{[]int{1, 0, 0, 1, 0, 0, 0, 1, 0}, 2, 4},
		{[]int{0, 1, 2, 1, 0, 2}, 3, 4},
		{[]int{2, 1, 0, 2, 1, 0}, 3, 3},
		// Of few threads the numbers of the others are no thread's.
		{[]int{0, 1}, 1, 2},
		{[]int{2, 1, 0, 2, 1, 0}, 1, 3},
		{[]int{2, 1, 0, 2, 1, 0}, 2, 3},
		// Numbers that are no thread's.
		{[]int{1}, 1, 2},
		{[]int{-1}, 1, 2},
		{[]int{5, 0, 5}, 1, 2},
		{[]int{-1, 0, -1}, 1, 2},
		{[]int{2, 0, 1, 0, 2, 1}, 2, 3},
		{[]int{-1, 0, 1, -1, 0, -2, 1}, 2, 4},
		{[]int{math.MaxInt, 0, math.MinInt, 1, 1 << 32, 0}, 2, 4},
		{[]int{1 << 32, 0, -1 << 32}, 1, 2},
		// A thread that the order lacks: only what is longer than the order is a bound.
		{[]int{0}, 2, 2},
		{[]int{1, 1}, 1, 3},
		{[]int{0, 0, 0, 0}, 2, 5},
		{[]int{1, 1, 1, 1}, 2, 5},
		{[]int{0, 2, 0, 2, 0, 2}, 3, 7},
		{[]int{-1, -1, -1}, 3, 4},
		{[]int{0, 1}, 3, 3},
		{[]int{0, 1}, 9, 3},
		{[]int{0, 1}, 1 << 32, 3},
		{[]int{0, 1}, math.MaxInt, 3},
		// No threads at all.
		{nil, 0, 0},
		{[]int{0, 1}, 0, 0},
		{[]int{0, 1}, -1, 0},
		{[]int{-1, 0}, -1, 0},
		{nil, math.MinInt, 0},
		{[]int{0, 1}, math.MinInt, 0},
	} {
		most(t, x.order, x.threads, x.want)
	}
}

// TestFair is P9.2 of orders that are shorter than the bound, just as long, and longer; and of threads and bounds that are none.
func TestFair(t *testing.T) {
	fair(t, []int{0, 1, 0}, 2, 2, true)
	fair(t, []int{0, 1, 0}, 2, 1, false)
	fair(t, []int{0, 0, 0}, 2, 4, true)
	fair(t, []int{0, 0, 0}, 2, 3, false)
	fair(t, []int{0, 0, 0}, 2, 2, false)
	fair(t, nil, 1, 1, true)
	fair(t, nil, 1, 0, false)
	fair(t, nil, 0, 1, false)
	fair(t, []int{2, 2}, 8, math.MaxInt, true)
	for _, order := range [][]int{nil, {}, {0}, {0, 1, 0, 1}, {-1, 0, 1}, {9}} {
		for _, none := range []int{math.MinInt, math.MinInt + 1, -1 << 32, -8, -1, 0} {
			for _, n := range []int{math.MinInt, -1, 0, 1, 2, 3, 8, 1 << 32, math.MaxInt} {
				fair(t, order, none, n, false)
				fair(t, order, n, none, false)
			}
			most(t, order, none, 0)
		}
		for _, threads := range []int{1, 2, 8, 9, 1 << 32, math.MaxInt} {
			fair(t, order, threads, len(order)+1, true)
			fair(t, order, threads, math.MaxInt, true)
		}
	}
}

// TestFairAll is P9.2 of all short orders, with numbers that are no thread's below 0 and above, held against what the promise says word by word.
func TestFairAll(t *testing.T) {
	orders(6, -1, 3, func(order []int) {
		for threads := -1; threads <= 5; threads++ {
			most(t, order, threads, leastOf(order, threads))
			for bound := -1; bound <= 8; bound++ {
				fair(t, order, threads, bound, isFair(order, threads, bound))
			}
		}
	})
	orders(13, 0, 1, func(order []int) { most(t, order, 2, leastOf(order, 2)) })
}

// TestFairAny is P9.2 of longer orders of more threads, made by a seed.
func TestFairAny(t *testing.T) {
	r := rand.New(rand.NewSource(9))
	for range 2000 {
		threads := 1 + r.Intn(9)
		order := make([]int, r.Intn(60))
		for i := range order {
			order[i] = r.Intn(threads)
			if r.Intn(20) == 0 {
				order[i] = -1 + r.Intn(2)*(threads+1)
			}
		}
		most(t, order, threads, leastOf(order, threads))
	}
}

// TestFairLong is P9.2 of orders and threads so many that not each part of bound numbers can be looked at by itself.
func TestFairLong(t *testing.T) {
	const n = 1 << 18
	order := make([]int, 2*n)
	for i := range order {
		order[i] = i % n
	}
	most(t, order, n, n)
	most(t, order, n+1, 2*n+1)
	most(t, order, 2*n, 2*n+1)
	most(t, order, 2*n+1, 2*n+1)
	most(t, order, 1, n)
	order[n], order[n+1] = order[n+1], order[n]
	most(t, order, n, n+1)
}

// TestRoundsFair is P9.3 of rounds: as many as there are threads, and no less, where a round has that many numbers or one fewer. One that is shorter yet is shorter than that bound.
func TestRoundsFair(t *testing.T) {
	for threads := 1; threads <= 8; threads++ {
		for n := range 100 {
			most(t, round(t, threads, n), threads, min(threads, n+1))
		}
		for _, n := range []int{3999, 4000} {
			most(t, round(t, threads, n), threads, threads)
			most(t, round(t, threads, n), threads+1, n+1)
		}
	}
}

// TestFairFollows is P9.3 of greater bounds and of parts: what is fair by a bound is so by each greater one, and so is each part of it.
func TestFairFollows(t *testing.T) {
	holds := func(order []int, threads, bound int) {
		if !Fair(order, threads, bound) {
			return
		}
		for greater := bound; greater <= len(order)+2; greater++ {
			fair(t, order, threads, greater, true)
		}
		fair(t, order, threads, math.MaxInt, true)
		for from := range len(order) + 1 {
			for to := from; to <= len(order); to++ {
				fair(t, order[from:to], threads, bound, true)
			}
		}
	}
	orders(5, -1, 3, func(order []int) {
		for threads := range 5 {
			for bound := range 7 {
				holds(order, threads, bound)
			}
		}
	})
	for threads := 1; threads <= 8; threads++ {
		for bound := threads; bound <= threads+2; bound++ {
			holds(round(t, threads, 40), threads, bound)
		}
	}
}

// TestRoundsPicked is P9.1 of both calls: who is picked by rising numbers, all being alive, goes in rounds.
func TestRoundsPicked(t *testing.T) {
	for threads := 1; threads <= 8; threads++ {
		alive := round(t, threads, threads)
		for p, want := range round(t, threads, 4000) {
			picked(t, p, alive, want, api.OK)
		}
	}
}

// TestHandedIn is R2: what is handed in stays as it is, what came out is not changed later, and a call's answer hangs on its arguments alone.
func TestHandedIn(t *testing.T) {
	alive := []int{5, 6, 8, 9}
	for range 3 {
		picked(t, 5, alive[:3], 8, api.OK)
		picked(t, 0, alive[:3], 5, api.OK)
	}
	if !slices.Equal(alive, []int{5, 6, 8, 9}) {
		t.Errorf("R2: Pick changed what is alive to %v", alive)
	}
	order := []int{0, 1, -1, 2, 1, 0}
	for range 3 {
		most(t, order[:5], 3, 5)
	}
	if !slices.Equal(order, []int{0, 1, -1, 2, 1, 0}) {
		t.Errorf("R2: the order was changed to %v", order)
	}
	one, other := round(t, 3, 5), round(t, 3, 5)
	clear(one[:cap(one)])
	if !slices.Equal(other, []int{0, 1, 2, 0, 1}) {
		t.Errorf("R2: a round was changed to %v", other)
	}
	rounds(t, 3, 5, []int{0, 1, 2, 0, 1}, api.OK)
}
