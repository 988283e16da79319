package shard

import (
	"fmt"
	"math"
	"math/rand"
	"slices"
	"testing"

	"hydrant/api"
)

// short is what x says, but no more of it than somebody would read.
func short(x any) string {
	s := fmt.Sprintf("%+v", x)
	return s[:min(len(s), 600)]
}

// same is whether a and b have the same rows.
func same(a, b [][]uint64) bool { return slices.EqualFunc(a, b, slices.Equal) }

// own is c in memory of its own.
func own(c [][]uint64) [][]uint64 {
	to := slices.Clone(c)
	for i, row := range c {
		to[i] = slices.Clone(row)
	}
	return to
}

// rows are as many rows of those lengths.
func rows(lengths ...int) [][]uint64 {
	c := make([][]uint64, len(lengths))
	for i, n := range lengths {
		c[i] = make([]uint64, n)
	}
	return c
}

// many are n rows of 6 numbers.
func many(n int) [][]uint64 { return rows(slices.Repeat([]int{6}, n)...) }

// unlike are n rows, no two of whose numbers are the same.
func unlike(n int) [][]uint64 {
	c := many(n)
	for i, row := range c {
		for k := range row {
			row[k] = uint64(100*(i+1) + k)
		}
	}
	return c
}

// draw are n rows of numbers that r tells: small ones, any ones, and the greatest one.
func draw(r *rand.Rand, n int) [][]uint64 {
	c := many(n)
	for _, row := range c {
		for k := range row {
			row[k] = []uint64{uint64(r.Intn(3)), r.Uint64(), math.MaxUint64, math.MaxUint64 - uint64(r.Intn(3))}[r.Intn(4)]
		}
	}
	return c
}

// wrong are what is no counts, of all the ways to be none.
func wrong() [][][]uint64 {
	l := [][][]uint64{nil, {}, many(9), many(10), many(16), many(1 << 16), {nil}, {nil, nil}, make([][]uint64, 8), make([][]uint64, 9)}
	for _, bad := range []int{0, 1, 5, 7, 12, 1 << 16} {
		l = append(l, rows(bad), rows(6, 6, 6, 6, 6, 6, 6, 6, bad), rows(bad, bad))
		// The bad row first, in the middle, and last, of as many rows as may be, and of fewer.
		for _, n := range []int{2, 3, 5, 8} {
			for at := range n {
				c := many(n)
				c[at] = make([]uint64, bad)
				l = append(l, c)
			}
		}
	}
	// As many numbers in all as counts of two rows have.
	return append(l, rows(5, 7), rows(7, 5), rows(12, 0), [][]uint64{{1, 2, 3, 4, 5, 6}, nil}, [][]uint64{nil, {1, 2, 3, 4, 5, 6}})
}

// outside are ints that are no numbers of n things: below 0, just as many as there are, one more, and far away, also where the lower 32 bits of them are the number of one.
func outside(n int) []int {
	return []int{-1, -2, -n, -n - 1, n, n + 1, 2 * n, 1 << 32, 1<<32 + n - 1, -1 << 32, math.MinInt32, math.MaxInt32, math.MinInt, math.MinInt + 1, math.MaxInt, math.MaxInt - 1}
}

// is holds whether c is counts against want.
func is(t *testing.T, c [][]uint64, want bool) {
	t.Helper()
	if Is(c) != want {
		t.Errorf("P11.1: Is: %t is not so of %d rows, %s", !want, len(c), short(c))
	}
}

// added holds Add of c against P11.2's words, and tells what it answers.
func added(t *testing.T, c [][]uint64, thread, kind int) [][]uint64 {
	t.Helper()
	was, want := own(c), own(c)
	want[thread][kind]++
	d, e := Add(c, thread, kind)
	if e != api.OK || !same(d, want) {
		t.Errorf("P11.2: Add of %d, %d: %s, %d; want %s", thread, kind, short(d), e, short(want))
	}
	if !same(c, was) {
		t.Errorf("R2: Add of %d, %d: %s became %s", thread, kind, short(was), short(c))
	}
	return d
}

// refused asks for ErrArg of Add.
func refused(t *testing.T, c [][]uint64, thread, kind int) {
	t.Helper()
	was := own(c)
	if d, e := Add(c, thread, kind); len(d) != 0 || e != api.ErrArg {
		t.Errorf("P11.2: Add of %d, %d: %s, %d; want none, %d, of %d rows, %s", thread, kind, short(d), e, api.ErrArg, len(c), short(c))
	}
	if !same(c, was) {
		t.Errorf("R2: Add of %d, %d: %s became %s", thread, kind, short(was), short(c))
	}
}

// sum holds Sum of c against want.
func sum(t *testing.T, c [][]uint64, want [6]uint64) {
	t.Helper()
	was := own(c)
	if s, e := Sum(c); s != want || e != api.OK {
		t.Errorf("P11.2: Sum: %v, %d; want %v, of %s", s, e, want, short(c))
	}
	if !same(c, was) {
		t.Errorf("R2: Sum: %s became %s", short(was), short(c))
	}
}

// total is P11.2's sums: 64 bits of what the numbers are together, kind by kind.
func total(c [][]uint64) [6]uint64 {
	var s [6]uint64
	for _, row := range c {
		for k, n := range row {
			s[k] += n
		}
	}
	return s
}

// TestNew is P11.1 of all numbers of threads that may be.
func TestNew(t *testing.T) {
	for threads := 1; threads <= 8; threads++ {
		c, e := New(threads)
		if e != api.OK || !same(c, many(threads)) {
			t.Errorf("P11.1: New of %d: %s, %d", threads, short(c), e)
		}
		is(t, c, true)
		sum(t, c, [6]uint64{})
	}
}

// TestNewErrors is P11.1 of numbers of threads that may not be.
func TestNewErrors(t *testing.T) {
	for _, threads := range []int{0, 9, 10, 16, 1 << 16, -1, -8, -9, 1<<32 + 1, -1<<32 + 8, math.MinInt32, math.MaxInt32, math.MinInt, math.MinInt + 1, math.MaxInt - 1, math.MaxInt} {
		if c, e := New(threads); len(c) != 0 || e != api.ErrArg {
			t.Errorf("P11.1: New of %d: %d rows, %d; want none, %d", threads, len(c), e, api.ErrArg)
		}
	}
}

// TestNewOwn is of who writes to what New tells: to no other row of it, and to nothing that is told later.
func TestNewOwn(t *testing.T) {
	for threads := 1; threads <= 8; threads++ {
		c, _ := New(threads)
		for i := range c {
			want := own(c)
			want[i] = []uint64{9, 9, 9, 9, 9, 9}
			for k := range c[i] {
				c[i][k] = 9
			}
			_ = append(c[i], 7, 7, 7, 7, 7, 7)
			if !same(c, want) {
				t.Errorf("P11.1: %s; want %s", short(c), short(want))
			}
		}
		if d, e := New(threads); e != api.OK || !same(d, many(threads)) {
			t.Errorf("P11.1: New of %d, once more: %s, %d", threads, short(d), e)
		}
	}
}

// TestIs is P11.1 of what is counts: 1 to 8 rows of 6 numbers, whatever these are.
func TestIs(t *testing.T) {
	r := rand.New(rand.NewSource(111))
	for n := 1; n <= 8; n++ {
		is(t, many(n), true)
		is(t, unlike(n), true)
		for range 20 {
			is(t, draw(r, n), true)
		}
		// What a list has behind its end plays no part.
		long := append(many(n), make([]uint64, 7), nil)
		is(t, long, false)
		is(t, long[:n], true)
		long = rows(slices.Repeat([]int{9}, n)...)
		is(t, long, false)
		for i := range long {
			long[i] = long[i][:6]
		}
		is(t, long, true)
	}
}

// TestIsNot is P11.1 of what is no counts.
func TestIsNot(t *testing.T) {
	for _, c := range wrong() {
		is(t, c, false)
	}
}

// TestIsLengths is P11.1 of 1 to 4 rows of all lengths up to 8 numbers.
func TestIsLengths(t *testing.T) {
	for n := 1; n <= 4; n++ {
		lengths := make([]int, n)
		for shape := range int(math.Pow(9, float64(n))) {
			right := true
			for i := range lengths {
				lengths[i] = shape % 9
				shape /= 9
				right = right && lengths[i] == 6
			}
			is(t, rows(lengths...), right)
		}
	}
}

// TestAdd is P11.2 of each row and each kind of counts of all sizes.
func TestAdd(t *testing.T) {
	for n := 1; n <= 8; n++ {
		for thread := range n {
			for kind := range 6 {
				added(t, many(n), thread, kind)
				added(t, unlike(n), thread, kind)
			}
		}
	}
	for _, x := range []struct{ thread, kind int }{{0, 0}, {0, 5}, {7, 0}, {7, 5}} {
		d := added(t, unlike(8), x.thread, x.kind)
		if want := uint64(100*(x.thread+1) + x.kind + 1); d[x.thread][x.kind] != want {
			t.Errorf("P11.2: %d of the thread %d and the kind %d; want %d", d[x.thread][x.kind], x.thread, x.kind, want)
		}
	}
	d := added(t, [][]uint64{{0, 0, 0, 0, 0, 0}, {1, 2, 3, 4, 5, 6}}, 1, api.NoRoute)
	if !same(d, [][]uint64{{0, 0, 0, 0, 0, 0}, {1, 2, 4, 4, 5, 6}}) {
		t.Errorf("P11.2: %s", short(d))
	}
}

// TestAddGreatest is P11.2 of numbers at the ends of what 32, 53, 63 and 64 bits hold: behind the greatest one is 0, and nothing is carried over to another number.
func TestAddGreatest(t *testing.T) {
	for _, x := range []struct{ was, want uint64 }{
		{math.MaxUint64, 0}, {math.MaxUint64 - 1, math.MaxUint64}, {0, 1},
		{math.MaxInt64, 1 << 63}, {math.MaxUint32, 1 << 32}, {math.MaxInt32, 1 << 31}, {1 << 53, 1<<53 + 1}, {1<<64 - 1<<11, 1<<64 - 1<<11 + 1},
	} {
		for n := 1; n <= 8; n++ {
			for thread := range n {
				for kind := range 6 {
					c := many(n)
					for _, row := range c {
						for k := range row {
							row[k] = x.was
						}
					}
					if d := added(t, c, thread, kind); d[thread][kind] != x.want {
						t.Errorf("P11.2: %d behind %d; want %d", d[thread][kind], x.was, x.want)
					}
				}
			}
		}
	}
}

// TestAddOutside is P11.2 of threads and kinds that there are none of, also of both.
func TestAddOutside(t *testing.T) {
	for n := 1; n <= 8; n++ {
		for _, thread := range outside(n) {
			for kind := range 6 {
				refused(t, unlike(n), thread, kind)
			}
			for _, kind := range outside(6) {
				refused(t, unlike(n), thread, kind)
			}
		}
		for thread := range n {
			for _, kind := range outside(6) {
				refused(t, unlike(n), thread, kind)
			}
		}
	}
}

// TestAddWrong is P11.2 of what is no counts, at numbers that are there in some rows, and at such as are nowhere.
func TestAddWrong(t *testing.T) {
	for _, c := range wrong() {
		for _, thread := range []int{0, 1, 7, 8, -1, len(c) - 1, len(c), math.MaxInt, math.MinInt} {
			for _, kind := range []int{0, 4, 5, 6, -1, math.MaxInt, math.MinInt} {
				refused(t, c, thread, kind)
			}
		}
	}
}

// TestAddStays is R2: what is handed in stays as it is, also behind the ends of its lists.
func TestAddStays(t *testing.T) {
	back := unlike(10)
	for i := range back {
		back[i] = append(back[i], 1, 2, 3)
	}
	long := slices.Clone(back)
	for i := range long {
		long[i] = long[i][:6]
	}
	was, wasLong := own(back), own(long)
	for n := 1; n <= 8; n++ {
		for thread := range n {
			for kind := range 6 {
				added(t, long[:n], thread, kind)
			}
		}
	}
	if !same(back, was) || !same(long, wasLong) {
		t.Errorf("R2: %s became %s", short(was), short(back))
	}
}

// TestAddOwn is of who writes to what Add tells, or to what it was handed: neither changes the other one, and no row changes another one.
func TestAddOwn(t *testing.T) {
	for n := 1; n <= 8; n++ {
		for at := range n {
			c := unlike(n)
			d := added(t, c, n-1, 5)
			was, want := own(c), own(d)
			for k := range d[at] {
				d[at][k], want[at][k] = 9, 9
			}
			_ = append(d[at], 7, 7, 7, 7, 7, 7)
			if !same(c, was) {
				t.Errorf("R2: %s became %s", short(was), short(c))
			}
			if !same(d, want) {
				t.Errorf("P11.2: %s; want %s", short(d), short(want))
			}
			d[at] = nil
			if !same(c, was) {
				t.Errorf("R2: %s became %s", short(was), short(c))
			}

			d = added(t, c, at, 0)
			want = own(d)
			clear(c[at])
			clear(c)
			if !same(d, want) {
				t.Errorf("R2: %s became %s", short(want), short(d))
			}
		}
	}
}

// TestAddShared is P11.2 of rows that share their memory: a row more is added to alone.
func TestAddShared(t *testing.T) {
	row := []uint64{1, 2, 3, 4, 5, 6}
	for n := 1; n <= 8; n++ {
		c := slices.Repeat([][]uint64{row}, n)
		for thread := range n {
			d := added(t, c, thread, 2)
			added(t, d, n-1, 3)
		}
	}
	// Rows that lie astride in one list.
	list := make([]uint64, 13)
	added(t, [][]uint64{list[0:6], list[1:7], list[7:13]}, 0, 5)
	added(t, [][]uint64{list[0:6], list[1:7], list[7:13]}, 1, 4)
}

// TestSum is P11.2 of one row, and of several.
func TestSum(t *testing.T) {
	sum(t, [][]uint64{{1, 2, 3, 4, 5, 6}}, [6]uint64{1, 2, 3, 4, 5, 6})
	sum(t, [][]uint64{{1, 2, 3, 4, 5, 6}, {10, 0, 30, 0, 0, 60}}, [6]uint64{11, 2, 33, 4, 5, 66})
	sum(t, [][]uint64{{0, 0, 0, 0, 0, 1}, {0, 0, 0, 0, 2, 0}, {0, 0, 0, 3, 0, 0}, {0, 0, 4, 0, 0, 0}, {0, 5, 0, 0, 0, 0}, {6, 0, 0, 0, 0, 0}, {0, 0, 0, 0, 0, 10}, {20, 0, 0, 0, 0, 0}},
		[6]uint64{26, 5, 4, 3, 2, 11})
	for n := 1; n <= 8; n++ {
		c := unlike(n)
		// 100, 200 and so on, and the kind as often as there are rows.
		var want [6]uint64
		for k := range want {
			want[k] = uint64(50*n*(n+1) + n*k)
		}
		sum(t, c, want)
		// Each row counts, and each kind is its own.
		for thread := range n {
			for kind := range 6 {
				c := many(n)
				c[thread][kind] = 7
				var want [6]uint64
				want[kind] = 7
				sum(t, c, want)
			}
		}
	}
}

// TestSumGoesRound is P11.2 of numbers whose sum goes beyond 64 bits: what is above them is left out, and is not another kind's.
func TestSumGoesRound(t *testing.T) {
	const top = math.MaxUint64
	sum(t, [][]uint64{{top, top, 0, top, 1 << 63, 5}}, [6]uint64{top, top, 0, top, 1 << 63, 5})
	sum(t, [][]uint64{{top, top, 0, 1 << 63, 1 << 63, top - 1}, {1, 3, top, 1 << 63, 1<<63 - 1, 1}}, [6]uint64{0, 2, top, 0, top, top})
	for n := uint64(1); n <= 8; n++ {
		c := many(int(n))
		for _, row := range c {
			for k := range row {
				row[k] = top
			}
		}
		// Each of them is 1 less than nothing.
		sum(t, c, [6]uint64{-n, -n, -n, -n, -n, -n})
		c[0][2], c[n-1][4] = 0, 0
		sum(t, c, [6]uint64{-n, -n, 1 - n, -n, 1 - n, -n})
	}
	r := rand.New(rand.NewSource(112))
	for range 2000 {
		c := draw(r, 1+r.Intn(8))
		sum(t, c, total(c))
	}
}

// TestSumWrong is P11.2 of what is no counts.
func TestSumWrong(t *testing.T) {
	for _, c := range wrong() {
		for _, row := range c {
			for k := range row {
				row[k] = uint64(k + 1)
			}
		}
		if s, e := Sum(c); s != [6]uint64{} || e != api.ErrArg {
			t.Errorf("P11.2: Sum: %v, %d; want none, %d, of %d rows, %s", s, e, api.ErrArg, len(c), short(c))
		}
	}
}

// TestSumOwn is of who writes to sums: they are not those that are told later.
func TestSumOwn(t *testing.T) {
	c := unlike(3)
	s, _ := Sum(c)
	s[0], s[5] = 0, 0
	sum(t, c, total(c))
}

// more is P11.3 of one Add: 1 more of its kind, and nothing more of any other one.
func more(t *testing.T, c [][]uint64, thread, kind int) [][]uint64 {
	t.Helper()
	want, e := Sum(c)
	d, f := Add(c, thread, kind)
	want[kind]++
	if s, g := Sum(d); s != want || e != api.OK || f != api.OK || g != api.OK {
		t.Errorf("P11.3: the thread %d and the kind %d: %v, %d, %d, %d; want %v", thread, kind, s, e, f, g, want)
	}
	return d
}

// TestMore is P11.3 of each thread and kind, also of sums that go round.
func TestMore(t *testing.T) {
	r := rand.New(rand.NewSource(113))
	for n := 1; n <= 8; n++ {
		for thread := range n {
			for kind := range 6 {
				more(t, many(n), thread, kind)
				more(t, draw(r, n), thread, kind)
				full := many(n)
				full[n-1-thread][kind] = math.MaxUint64
				more(t, full, thread, kind)
			}
		}
	}
}

// place is a thread and a kind.
type place struct{ thread, kind int }

// through are the counts behind Adds of all of l, one behind the other.
func through(t *testing.T, c [][]uint64, l []place) [][]uint64 {
	t.Helper()
	for _, p := range l {
		c = more(t, c, p.thread, p.kind)
	}
	return c
}

// TestMany is P11.3 of many Adds: each is counted once, whatever their order.
func TestMany(t *testing.T) {
	r := rand.New(rand.NewSource(114))
	for n := 1; n <= 8; n++ {
		for range 20 {
			first := draw(r, n)
			want, sums := own(first), total(first)
			l := make([]place, r.Intn(60))
			for i := range l {
				l[i] = place{r.Intn(n), r.Intn(6)}
				want[l[i].thread][l[i].kind]++
				sums[l[i].kind]++
			}
			for range 3 {
				c := through(t, first, l)
				if !same(c, want) {
					t.Errorf("P11.3: %s; want %s, behind %v", short(c), short(want), l)
				}
				sum(t, c, sums)
				r.Shuffle(len(l), func(i, k int) { l[i], l[k] = l[k], l[i] })
			}
		}
	}
}

// TestOrder is P11.3 of four Adds in all their orders, also of two of one number, and of that number's going round.
func TestOrder(t *testing.T) {
	first := [][]uint64{{math.MaxUint64, 0, 0, 0, 0, 0}, {1, 2, 3, 4, 5, 6}}
	l := []place{{0, 0}, {1, 5}, {0, 0}, {1, 0}}
	want := [][]uint64{{1, 0, 0, 0, 0, 0}, {2, 2, 3, 4, 5, 7}}
	orders := 0
	for i := range 256 {
		order := []int{i % 4, i / 4 % 4, i / 16 % 4, i / 64}
		if set := slices.Sorted(slices.Values(order)); !slices.Equal(set, []int{0, 1, 2, 3}) {
			continue
		}
		orders++
		c := through(t, first, []place{l[order[0]], l[order[1]], l[order[2]], l[order[3]]})
		if !same(c, want) {
			t.Errorf("P11.3: %s; want %s, in the order %v", short(c), short(want), order)
		}
		sum(t, c, [6]uint64{3, 2, 3, 4, 5, 7})
	}
	if orders != 24 {
		t.Errorf("there are 24 orders, not %d", orders)
	}
}
