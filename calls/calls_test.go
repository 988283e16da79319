package calls

import (
	"fmt"
	"math"
	"math/rand"
	"slices"
	"testing"

	"hydrant/api"
)

// short is what x says, but no more of it than somebody would read.
func short(x any) string {
	s := fmt.Sprintf("%+v", x)
	return s[:min(len(s), 600)]
}

// event is one of a thread's operation, with a Begin, a Point and a Done, as far as flags has a B, a P and a D.
func event(thread, op int, flags string) api.Event {
	v := api.Event{Thread: thread, Op: op}
	for _, f := range flags {
		switch f {
		case 'B':
			v.Begin = true
		case 'P':
			v.Point = true
		case 'D':
			v.Done = true
		}
	}
	return v
}

// answer is one in which no field is zero, and which differs from those of other numbers.
func answer(n int) api.Answer {
	return api.Answer{Kind: n, Version: n + 1, Cluster: n + 2, End: n + 3, Slot: n + 4, Listen: n + 5, N: n + 6, Counts: [6]uint64{uint64(n), 1, 2, 3, 4, math.MaxUint64}}
}

// answered is l with an Answer in each event, also in those that are not Done.
func answered(l []api.Event) []api.Event {
	l = slices.Clone(l)
	for i := range l {
		l[i].Answer = answer(100 * (i + 1))
	}
	return l
}

// call is one that ends at to with the answer that answered puts there, if it ends.
func call(thread, op, from, point, to int) api.Call {
	c := api.Call{Thread: thread, Op: op, From: from, Point: point, To: to}
	if to >= 0 {
		c.Answer = answer(100 * (to + 1))
	}
	return c
}

// has holds the calls of l, with an answer in each of its events, against want.
func has(t *testing.T, l []api.Event, want ...api.Call) []api.Call {
	t.Helper()
	l = answered(l)
	c, e := Of(l)
	if !slices.Equal(c, want) || e != api.OK {
		t.Errorf("P10.1: %s, %d; want %s, of %s", short(c), e, short(want), short(l))
	}
	return c
}

// fails asks for ErrForm of l.
func fails(t *testing.T, l ...api.Event) {
	t.Helper()
	if c, e := Of(answered(l)); len(c) != 0 || e != api.ErrForm {
		t.Errorf("P10.1: %s, %d; want none, %d, of %s", short(c), e, api.ErrForm, short(l))
	}
}

// ahead holds whether a is ahead of b against want.
func ahead(t *testing.T, a, b api.Call, want bool) {
	t.Helper()
	if Ahead(a, b) != want {
		t.Errorf("P10.2: Ahead: %t is not so of %s and %s", !want, short(a), short(b))
	}
}

// pointed are calls of these Points.
func pointed(points ...int) []api.Call {
	var l []api.Call
	for _, p := range points {
		l = append(l, api.Call{Point: p})
	}
	return l
}

// ordered holds the order of l against want.
func ordered(t *testing.T, l []api.Call, want ...int) {
	t.Helper()
	if o := Order(l); !slices.Equal(o, want) {
		t.Errorf("P10.2: Order: %s; want %s, of %s", short(o), short(want), short(l))
	}
}

// stands is P10.1's errors, word by word: whether v may stand behind l, of which each event may stand where it does.
func stands(l []api.Event, v api.Event) bool {
	begun, ended, others := false, false, 0
	for _, x := range l {
		if x.Thread != v.Thread {
			continue
		}
		if x.Op == v.Op {
			begun, ended = begun || x.Begin, ended || x.Done
		} else {
			others += count(x.Begin) - count(x.Done)
		}
	}
	if v.Begin {
		return !begun && others == 0
	}
	return begun && !ended
}

func count(is bool) int {
	if is {
		return 1
	}
	return 0
}

// told is P10.1's calls, word by word, of a trace that is right: for each Begin what all events of that call say.
func told(l []api.Event) []api.Call {
	var all []api.Call
	for from, v := range l {
		if !v.Begin {
			continue
		}
		c := api.Call{Thread: v.Thread, Op: v.Op, From: from, Point: -1, To: -1}
		for i, x := range l {
			if x.Thread == v.Thread && x.Op == v.Op && x.Point {
				c.Point = i
			}
			if x.Thread == v.Thread && x.Op == v.Op && x.Done {
				c.To, c.Answer = i, x.Answer
			}
		}
		all = append(all, c)
	}
	return all
}

// follows is P10.3 of the calls of a trace.
func follows(t *testing.T, l []api.Event) {
	t.Helper()
	c, e := Of(l)
	if e != api.OK {
		t.Errorf("P10.3: the error %d, of %s", e, short(l))
	}
	order := Order(c)
	for i, behind := range order {
		for _, first := range order[:i] {
			if Ahead(c[behind], c[first]) {
				t.Errorf("P10.3: %d stands behind %d, which it is ahead of, in %v, of %s", behind, first, order, short(c))
			}
		}
	}
	last := map[int]api.Call{}
	for _, x := range c {
		if before, found := last[x.Thread]; found && !Ahead(before, x) {
			t.Errorf("P10.3: %s is not ahead of the next one of its thread, %s", short(before), short(x))
		}
		last[x.Thread] = x
	}
}

// flags are all that an event may say of its call.
var flags = []string{"", "B", "P", "D", "BP", "BD", "PD", "BPD"}

// traces calls right with all traces of that length at most that are right, of so many threads and operations, and wrong with those that go wrong at their last event.
func traces(length, threads, ops int, right, wrong func(l []api.Event)) {
	var l []api.Event
	var more func()
	more = func() {
		right(l)
		if len(l) == length {
			return
		}
		for i := range threads * ops * len(flags) {
			v := event(i%threads, i/threads%ops, flags[i/threads/ops])
			if stands(l, v) {
				l = append(l, v)
				more()
				l = l[:len(l)-1]
			} else {
				wrong(append(l, v))
			}
		}
	}
	more()
}

// played is a trace that is right, of that many events of some threads, made by r: the operations of a thread follow one another, or, if not by rising, then by falling numbers.
func played(r *rand.Rand, threads, n, rising int) []api.Event {
	l := make([]api.Event, 0, n)
	op, busy := make([]int, threads), make([]bool, threads)
	for range n {
		thread := r.Intn(threads)
		v := api.Event{Thread: thread, Begin: !busy[thread], Point: r.Intn(3) == 0, Done: r.Intn(3) == 0}
		if v.Begin {
			op[thread] += rising
		}
		v.Op = op[thread]
		busy[thread] = !v.Done
		l = append(l, v)
	}
	return answered(l)
}

// TestOf is P10.1 of traces of no event, of one call, and of several ones of one thread.
func TestOf(t *testing.T) {
	has(t, nil)
	has(t, []api.Event{})
	has(t, []api.Event{event(0, 0, "B")}, call(0, 0, 0, -1, -1))
	has(t, []api.Event{event(2, 3, "B"), event(2, 3, "P"), event(2, 3, "D")}, call(2, 3, 0, 1, 2))
	has(t, []api.Event{event(0, 0, "B"), event(0, 0, ""), event(0, 0, "P"), event(0, 0, ""), event(0, 0, "D"), event(0, 1, "B"), event(0, 1, ""), event(0, 1, "PD"), event(0, 2, "BP"), event(0, 2, "")},
		call(0, 0, 0, 2, 4), call(0, 1, 5, 7, 7), call(0, 2, 8, 8, -1))
}

// TestOfThreads is P10.1 of calls of several threads, one behind the other, astride and within one another: they stand as they begin, not as they end.
func TestOfThreads(t *testing.T) {
	has(t, []api.Event{event(1, 0, "B"), event(1, 0, "PD"), event(0, 0, "B"), event(0, 0, "PD")},
		call(1, 0, 0, 1, 1), call(0, 0, 2, 3, 3))
	has(t, []api.Event{event(1, 0, "B"), event(0, 0, "BP"), event(1, 0, "P"), event(1, 0, "D"), event(0, 0, "D")},
		call(1, 0, 0, 2, 3), call(0, 0, 1, 1, 4))
	has(t, []api.Event{event(2, 0, "B"), event(1, 0, "B"), event(0, 0, "BPD"), event(1, 0, "PD"), event(1, 1, "BD"), event(2, 0, "PD")},
		call(2, 0, 0, 5, 5), call(1, 0, 1, 3, 3), call(0, 0, 2, 2, 2), call(1, 1, 4, -1, 4))
	// An operation's number is its thread's own.
	has(t, []api.Event{event(0, 5, "B"), event(1, 5, "B"), event(5, 1, "B"), event(1, 5, "P"), event(5, 1, "D"), event(0, 5, "P")},
		call(0, 5, 0, 5, -1), call(1, 5, 1, 3, -1), call(5, 1, 2, -1, 4))
	var l []api.Event
	var want []api.Call
	for thread := range 8 {
		l = append(l, event(thread, 0, "B"))
		want = append(want, call(thread, 0, thread, -1, 15-thread))
	}
	for thread := range 8 {
		l = append(l, event(7-thread, 0, "D"))
	}
	has(t, l, want...)
}

// TestOfOneEvent is P10.1 of calls whose first event is their last one.
func TestOfOneEvent(t *testing.T) {
	has(t, []api.Event{event(0, 0, "BPD")}, call(0, 0, 0, 0, 0))
	has(t, []api.Event{event(0, 0, "BD")}, call(0, 0, 0, -1, 0))
	has(t, []api.Event{event(0, 0, "BPD"), event(0, 1, "BD"), event(1, 0, "BPD"), event(0, 2, "BPD")},
		call(0, 0, 0, 0, 0), call(0, 1, 1, -1, 1), call(1, 0, 2, 2, 2), call(0, 2, 3, 3, 3))
}

// TestOfPoints is P10.1 of calls with no Point, with one, and with several: the last one counts.
func TestOfPoints(t *testing.T) {
	for _, x := range []struct {
		flags []string
		point int
	}{
		{[]string{"B", "", "", "D"}, -1},
		{[]string{"BP", "", "", "D"}, 0},
		{[]string{"B", "P", "", "D"}, 1},
		{[]string{"B", "", "", "PD"}, 3},
		{[]string{"BP", "P", "", "D"}, 1},
		{[]string{"BP", "", "P", "D"}, 2},
		{[]string{"B", "P", "P", "D"}, 2},
		{[]string{"BP", "", "", "PD"}, 3},
		{[]string{"BP", "P", "P", "PD"}, 3},
		{[]string{"B", "", ""}, -1},
		{[]string{"BP", "", ""}, 0},
		{[]string{"BP", "P", ""}, 1},
		{[]string{"B", "P", "P"}, 2},
	} {
		var l []api.Event
		for _, f := range x.flags {
			l = append(l, event(0, 0, f))
		}
		to := -1
		if len(x.flags) == 4 {
			to = 3
		}
		has(t, l, call(0, 0, 0, x.point, to))
	}
	// A Point is of its own call alone.
	has(t, []api.Event{event(0, 0, "BP"), event(1, 0, "B"), event(1, 0, "P"), event(0, 0, ""), event(1, 0, "P"), event(0, 0, "D"), event(0, 1, "BPD")},
		call(0, 0, 0, 0, 5), call(1, 0, 1, 4, -1), call(0, 1, 6, 6, 6))
}

// TestOfAnswers is P10.1 of the Answer: that of the Done event, whatever the others say; and none, if there is none.
func TestOfAnswers(t *testing.T) {
	l := []api.Event{event(0, 0, "B"), event(0, 0, "P"), event(0, 0, ""), event(0, 0, "D")}
	for i := range l {
		l[i].Answer = answer(i + 10)
	}
	for n := 1; n <= len(l); n++ {
		c, e := Of(l[:n])
		var want api.Answer
		if n == len(l) {
			want = answer(13)
		}
		if e != api.OK || len(c) != 1 || c[0].Answer != want {
			t.Errorf("P10.1: %s, %d; want the answer %s", short(c), e, short(want))
		}
	}
	l[3].Answer = api.Answer{}
	if c, e := Of(l); e != api.OK || len(c) != 1 || c[0].Answer != (api.Answer{}) {
		t.Errorf("P10.1: %s, %d; want no answer", short(c), e)
	}
}

// TestOfOthers is P10.1 of all that an event says besides: it plays no part.
func TestOfOthers(t *testing.T) {
	l := []api.Event{event(1, 0, "B"), event(0, 0, "BP"), event(1, 0, "PD"), event(0, 0, "P")}
	want := has(t, l, call(1, 0, 0, 2, 2), call(0, 0, 1, 3, -1))
	for i := range l {
		l[i].Access, l[i].Cell, l[i].Version, l[i].Freed, l[i].Value = -i-1, i+20, i-9, i%2 == 0, math.MaxInt-i
	}
	has(t, l, want...)
}

// TestOfNumbers is P10.1 of threads and operations of any numbers, in any order: below 0, beyond all limits, and at the ends of what they may be.
func TestOfNumbers(t *testing.T) {
	numbers := []int{0, -1, 1, math.MinInt, math.MaxInt, math.MinInt + 1, math.MaxInt - 1, -1 << 32, 1 << 32, 7, 8, 16, 15, math.MinInt32, math.MaxInt32, 1<<32 + 1}
	var l []api.Event
	var want []api.Call
	for _, op := range numbers {
		for _, thread := range numbers {
			n := len(l)
			l = append(l, event(thread, op, "B"), event(thread, op, "P"), event(thread, op, "D"))
			want = append(want, call(thread, op, n, n+1, n+2))
		}
	}
	has(t, l, want...)
	for _, thread := range numbers {
		for _, op := range numbers {
			fails(t, event(thread, op, ""))
			fails(t, event(thread, op, "PD"))
			fails(t, append(slices.Clone(l), event(thread, op, "B"))...)
			fails(t, append(slices.Clone(l), event(thread, op, ""))...)
			fails(t, event(thread, op, "B"), event(thread, op^1, "B"))
			fails(t, event(thread, op, "B"), event(thread, ^op, ""))
			fails(t, event(thread, op, "B"), event(^thread, op, ""))
		}
	}
}

// TestOfNotBegun is P10.1 of events that are no Begin, of a call that has not begun: of none at all, of another Op, and of another Thread.
func TestOfNotBegun(t *testing.T) {
	for _, f := range []string{"", "P", "D", "PD"} {
		fails(t, event(0, 0, f))
		fails(t, event(3, 2, f))
		fails(t, event(0, 0, f), event(0, 0, "B"))
		fails(t, event(0, 0, "B"), event(0, 1, f))
		fails(t, event(0, 1, "B"), event(0, 0, f))
		fails(t, event(0, 0, "B"), event(1, 0, f))
		fails(t, event(0, 0, "BD"), event(0, 1, f))
		fails(t, event(0, 1, "B"), event(1, 0, f))
		fails(t, event(0, 0, "B"), event(1, 1, "B"), event(0, 1, f))
		fails(t, event(0, 0, "B"), event(0, 0, f), event(0, 1, f))
	}
}

// TestOfEnded is P10.1 of events of a call that has ended, also while its thread is at another one: ones that are no Begin, and a Begin.
func TestOfEnded(t *testing.T) {
	for _, f := range flags {
		fails(t, event(0, 0, "BD"), event(0, 0, f))
		fails(t, event(0, 0, "BPD"), event(0, 0, f))
		fails(t, event(0, 0, "B"), event(0, 0, "D"), event(0, 0, f))
		fails(t, event(0, 0, "BD"), event(0, 1, "B"), event(0, 0, f))
		fails(t, event(0, 0, "BD"), event(0, 1, "BD"), event(0, 0, f))
		fails(t, event(0, 0, "BD"), event(1, 0, "B"), event(0, 0, f))
		fails(t, event(0, 0, "BD"), event(0, 1, "BD"), event(0, 2, "B"), event(0, 1, f))
	}
}

// TestOfBegun is P10.1 of a Begin of a call that has begun, and of a thread with another call that has not ended.
func TestOfBegun(t *testing.T) {
	for _, f := range []string{"B", "BP", "BD", "BPD"} {
		fails(t, event(0, 0, "B"), event(0, 0, f))
		fails(t, event(0, 0, "B"), event(0, 0, "P"), event(0, 0, f))
		fails(t, event(0, 0, "B"), event(1, 0, "B"), event(0, 0, f))
		fails(t, event(0, 0, "B"), event(0, 1, f))
		fails(t, event(0, 1, "B"), event(0, 0, f))
		fails(t, event(0, 0, "B"), event(0, 0, "P"), event(0, 1, f))
		fails(t, event(0, 0, "BD"), event(0, 1, "B"), event(0, 2, f))
		fails(t, event(0, 0, "B"), event(1, 0, "BD"), event(0, 1, f))
		// Behind an end the next one may begin.
		l := []api.Event{event(0, 0, "B"), event(1, 0, "B"), event(0, 0, "D"), event(0, 1, f)}
		has(t, l, told(answered(l))...)
	}
}

// TestOfFirstWrong is P10.1 of an error at any place of a longer trace: nothing beside it is told, whatever stands ahead of it and behind.
func TestOfFirstWrong(t *testing.T) {
	r := rand.New(rand.NewSource(10))
	for range 200 {
		l := played(r, 4, 30, 1)
		for at := range len(l) + 1 {
			fails(t, slices.Insert(slices.Clone(l), at, event(4, 0, "PD"))...)
			fails(t, slices.Insert(slices.Clone(l), at, event(4, 0, "B"), event(4, 1, "BD"), event(4, 0, "D"))...)
		}
	}
}

// TestOfAll is P10.1 of all short traces of two threads of two operations, held against what the promise says word by word.
func TestOfAll(t *testing.T) {
	right := func(l []api.Event) { has(t, l, told(answered(l))...) }
	traces(4, 2, 2, right, func(l []api.Event) { fails(t, l...) })
	traces(5, 1, 3, right, func(l []api.Event) { fails(t, l...) })
}

// TestOfAny is P10.1 of longer traces, made by a seed, with an event now and then that may be wrong.
func TestOfAny(t *testing.T) {
	r := rand.New(rand.NewSource(11))
	for range 3000 {
		l := played(r, 1+r.Intn(8), r.Intn(60), 1)
		has(t, l, told(l)...)
		if len(l) == 0 {
			continue
		}
		at := r.Intn(len(l))
		v := event(l[at].Thread+r.Intn(2), l[at].Op+r.Intn(3)-1, flags[r.Intn(len(flags))])
		l[at] = v
		l = answered(l)
		wrong := -1
		for i := range l {
			if wrong < 0 && !stands(l[:i], l[i]) {
				wrong = i
			}
		}
		if wrong < 0 {
			has(t, l, told(l)...)
		} else {
			fails(t, l...)
			has(t, l[:wrong], told(l[:wrong])...)
		}
	}
}

// TestOfLong is P10.1 of a trace so long that not each event can be looked for among all.
func TestOfLong(t *testing.T) {
	const n = 100000
	var l []api.Event
	var want []api.Call
	for i := range n {
		l = append(l, event(i, -i, "B"))
		want = append(want, api.Call{Thread: i, Op: -i, From: i, Point: n + i, To: n + i})
	}
	for i := range n {
		l = append(l, event(i, -i, "PD"))
	}
	for i := range n {
		l = append(l, event(7, i, "BPD"))
		want = append(want, api.Call{Thread: 7, Op: i, From: 2*n + i, Point: 2*n + i, To: 2*n + i})
	}
	c, e := Of(l)
	if !slices.Equal(c, want) || e != api.OK {
		t.Errorf("P10.1: %s, %d; want %s", short(c), e, short(want))
	}
	o := Order(c)
	if len(o) != 2*n || !slices.IsSorted(o) {
		t.Errorf("P10.2: Order: %s", short(o))
	}
}

// TestAhead is P10.2 of calls of which one is ahead of the other, and of ones that touch, overlap, or lie within one another.
func TestAhead(t *testing.T) {
	for _, x := range []struct {
		aFrom, aTo, bFrom, bTo int
		want, back             bool
	}{
		{0, 2, 3, 5, true, false},
		{0, 2, 9, 9, true, false},
		{0, 0, 1, 1, true, false},
		{0, 2, 3, -1, true, false},
		{0, 3, 3, 5, false, false},
		{0, 4, 3, 5, false, false},
		{0, 9, 3, 5, false, false},
		{3, 5, 3, 5, false, false},
		{3, 3, 3, 3, false, false},
		{0, -1, 3, 5, false, false},
		{0, -1, 3, -1, false, false},
		{5, -1, 0, 4, false, true},
		{-1, -1, 3, 5, false, false},
	} {
		a, b := api.Call{From: x.aFrom, To: x.aTo}, api.Call{From: x.bFrom, To: x.bTo}
		ahead(t, a, b, x.want)
		ahead(t, b, a, x.back)
	}
}

// TestAheadItself is P10.2 of a call and itself: none of a trace is ahead of itself, whether it has ended or not.
func TestAheadItself(t *testing.T) {
	for _, c := range []api.Call{{}, {From: 3, To: 5}, {From: 3, To: 3}, {From: 3, To: -1}, {From: math.MaxInt, To: math.MaxInt}, call(1, 2, 3, 4, 5)} {
		ahead(t, c, c, false)
	}
}

// TestAheadAny is P10.2 of calls of any numbers, of which -1 alone is one that has not ended, and of all that they say besides, which plays no part.
func TestAheadAny(t *testing.T) {
	numbers := []int{math.MinInt, math.MinInt + 1, -1 << 32, -7, -3, -2, -1, 0, 1, 2, 5, 6, 1 << 32, math.MaxInt - 1, math.MaxInt}
	for _, to := range numbers {
		for _, from := range numbers {
			want := to != -1 && to < from
			ahead(t, api.Call{To: to}, api.Call{From: from}, want)
			for _, other := range numbers {
				a := api.Call{Thread: other, Op: 1, From: other, Point: other, To: to, Answer: answer(3)}
				b := api.Call{Thread: other, Op: 2, From: from, Point: 1, To: other}
				ahead(t, a, b, want)
			}
			itself := api.Call{From: from, To: to}
			ahead(t, itself, itself, want)
		}
	}
}

// TestOrder is P10.2 of calls with and without a Point, with the same one, and with ones that rise and fall.
func TestOrder(t *testing.T) {
	ordered(t, nil)
	ordered(t, []api.Call{})
	ordered(t, pointed(-1))
	ordered(t, pointed(-1, -1, -1))
	ordered(t, pointed(0), 0)
	ordered(t, pointed(-1, 0), 1)
	ordered(t, pointed(2, 3, 5, 8), 0, 1, 2, 3)
	ordered(t, pointed(8, 5, 3, 2), 3, 2, 1, 0)
	ordered(t, pointed(8, -1, 3, -1, -1, 5), 2, 5, 0)
	ordered(t, pointed(4, 4, 4, 4), 0, 1, 2, 3)
	ordered(t, pointed(4, 2, 4, 2, 4), 1, 3, 0, 2, 4)
	ordered(t, pointed(4, -1, 2, 4, -5), 4, 2, 0, 3)
	ordered(t, pointed(0, -2, -1, -3, 0, -2), 3, 1, 5, 0, 4)
	ordered(t, pointed(math.MaxInt, math.MinInt, -1, 0, math.MinInt, math.MaxInt, math.MaxInt-1, math.MinInt+1), 1, 4, 7, 3, 6, 0, 5)
	ordered(t, pointed(1<<32, 1, -1<<32, 0), 2, 3, 1, 0)
}

// TestOrderOthers is P10.2 of all that a call says besides its Point: it plays no part, so that a call that has not ended is told, too.
func TestOrderOthers(t *testing.T) {
	ordered(t, []api.Call{
		{Thread: 5, Op: 9, From: 3, Point: 7, To: -1},
		{Thread: 4, Op: 8, From: 2, Point: 7, To: 1},
		{Thread: 3, Op: 7, From: -1, Point: 6, To: -1, Answer: answer(1)},
		{Thread: 2, Op: 6, From: 0, Point: -1, To: 9, Answer: answer(2)},
		{Thread: 1, Op: 5, From: -5, Point: -6, To: -7},
	}, 4, 2, 0, 1)
}

// TestOrderAny is P10.2 of many calls, made by a seed, of few Points, so that most are there again and again.
func TestOrderAny(t *testing.T) {
	r := rand.New(rand.NewSource(12))
	for range 2000 {
		l := make([]api.Call, r.Intn(80))
		for i := range l {
			l[i].Point = r.Intn(12) - 3
		}
		var want []int
		for point := -3; point < 12; point++ {
			for i, c := range l {
				if point != -1 && c.Point == point {
					want = append(want, i)
				}
			}
		}
		ordered(t, l, want...)
	}
}

// TestFollows is P10.3 of all short traces, and of longer ones that are made by a seed.
func TestFollows(t *testing.T) {
	traces(4, 2, 2, func(l []api.Event) { follows(t, l) }, func([]api.Event) {})
	traces(4, 3, 1, func(l []api.Event) { follows(t, l) }, func([]api.Event) {})
	r := rand.New(rand.NewSource(13))
	for range 1000 {
		follows(t, played(r, 1+r.Intn(8), r.Intn(80), 1))
		follows(t, played(r, 1+r.Intn(8), r.Intn(80), -1))
	}
}

// TestHandedIn is R2: what is handed in stays as it is, what came out is not changed later, and a call's answer hangs on its arguments alone.
func TestHandedIn(t *testing.T) {
	l := played(rand.New(rand.NewSource(14)), 8, 200, 1)
	kept := slices.Clone(l)
	one, e := Of(l)
	if e != api.OK || !slices.Equal(l, kept) {
		t.Errorf("R2: Of: %d, or the trace was changed to %s", e, short(l))
	}
	asked := slices.Clone(one)
	order := Order(one)
	if !slices.Equal(one, asked) {
		t.Errorf("R2: Order changed the calls to %s", short(one))
	}
	Of(l[:100])
	Of([]api.Event{event(0, 0, "")})
	for range 20 {
		other, e := Of(l)
		if e != api.OK || !slices.Equal(other, asked) || !slices.Equal(Order(other), order) {
			t.Errorf("R2: %s, %d; want %s, as it was at first", short(other), e, short(asked))
		}
		clear(other)
	}
	if !slices.Equal(one, asked) {
		t.Errorf("R2: the calls were changed to %s", short(one))
	}
	again := Order(one)
	clear(again)
	if !slices.Equal(Order(one), order) {
		t.Errorf("R2: the order was changed to %s", short(Order(one)))
	}
}
