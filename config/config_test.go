package config

import (
	"fmt"
	"iter"
	"math"
	"math/rand"
	"reflect"
	"regexp"
	"slices"
	"strings"
	"testing"

	"hydrant/api"
)

// These say chapter 3's words once more, in another way than the code of names does.
var (
	nameForm    = regexp.MustCompile(`\A[a-z][a-z0-9-]{0,15}\z`)
	patternForm = regexp.MustCompile(`\A(\*|(\*\.)?[a-z][a-z0-9-]{0,15}(\.[a-z][a-z0-9-]{0,15})*)\z`)
	pathForm    = regexp.MustCompile(`\A/[a-z0-9/-]{0,31}\z`)
)

func isPattern(s string) bool {
	return patternForm.MatchString(s) && len(strings.TrimPrefix(s, "*.")) <= 32
}

// fault is one of the errors of a configuration: its rank among all of them, whatever the part is, and the part.
type fault struct {
	kind, part, rank int
	e                api.Errno
}

// Kinds of parts, in the order in which their errors are told.
const (
	lists = iota
	listens
	clusters
	routes
)

// faults are all errors of c, in the order of P5.1. The code asks for them one by one, and ends at the first one; here all are gathered, and sorted.
func faults(c api.Config) []fault {
	var l []fault
	bad := func(is bool, kind, part int, e api.Errno) {
		if is {
			l = append(l, fault{kind, part, len(l), e})
		}
	}
	named, grouped, routed := map[string]int{}, map[string]int{}, map[[3]string]int{}
	for i := len(c.Routes) - 1; i >= 0; i-- {
		routed[[3]string{c.Routes[i].Listen, c.Routes[i].Host, c.Routes[i].Path}] = i
	}
	for i := len(c.Clusters) - 1; i >= 0; i-- {
		grouped[c.Clusters[i].Name] = i
	}
	for i := len(c.Listens) - 1; i >= 0; i-- {
		named[c.Listens[i]] = i
	}
	for i, r := range c.Routes {
		_, has := named[r.Listen]
		bad(!has, routes, i, api.ErrNone)
		bad(!isPattern(r.Host), routes, i, api.ErrHost)
		bad(!pathForm.MatchString(r.Path), routes, i, api.ErrPath)
		_, has = grouped[r.Cluster]
		bad(!has, routes, i, api.ErrNone)
		bad(routed[[3]string{r.Listen, r.Host, r.Path}] != i, routes, i, api.ErrTwice)
	}
	for i, g := range c.Clusters {
		bad(!nameForm.MatchString(g.Name), clusters, i, api.ErrName)
		bad(grouped[g.Name] != i, clusters, i, api.ErrTwice)
		bad(!slices.Contains([]int{1, 2}, g.Policy), clusters, i, api.ErrPolicy)
		bad(!slices.Contains([]int{1, 2, 3, 4}, g.Slots), clusters, i, api.ErrSlots)
		bad(!slices.Contains([]int{1, 2, 3, 4}, len(g.Health)), clusters, i, api.ErrLimit)
	}
	for i, s := range c.Listens {
		bad(!nameForm.MatchString(s), listens, i, api.ErrName)
		bad(named[s] != i, listens, i, api.ErrTwice)
	}
	few := min(len(c.Listens), len(c.Routes), len(c.Clusters)) == 0
	bad(few || len(c.Listens) > 4 || len(c.Routes) > 8 || len(c.Clusters) > 4, lists, 0, api.ErrLimit)
	slices.SortFunc(l, func(a, b fault) int {
		return slices.Compare([]int{a.kind, a.part, a.rank}, []int{b.kind, b.part, b.rank})
	})
	return l
}

// short is what c says, but no more of it than somebody would read.
func short(c api.Config) string {
	s := fmt.Sprintf("%+q", fmt.Sprintf("%+v", c))
	return s[:min(len(s), 1000)]
}

// check holds what is told of c against want and part.
func check(t *testing.T, c api.Config, want api.Errno, part int) {
	t.Helper()
	if e, i := Check(c); e != want || i != part {
		t.Errorf("P5.1: %d, %d; want %d, %d, of %s", e, i, want, part, short(c))
	}
}

// checked holds what is told of c against its faults.
func checked(t *testing.T, c api.Config) {
	t.Helper()
	first := fault{e: api.OK}
	if l := faults(c); len(l) > 0 {
		first = l[0]
	}
	check(t, c, first.e, first.part)
}

// sized is a configuration that passes, of so many listeners, routes and clusters. Its routes differ in their paths, so that none of them is alike to another one when a Listen or a Host is changed.
func sized(listens, routes, clusters int) api.Config {
	var c api.Config
	for i := range listens {
		c.Listens = append(c.Listens, fmt.Sprintf("in%d", i))
	}
	for i := range clusters {
		c.Clusters = append(c.Clusters, api.Cluster{Name: fmt.Sprintf("g%d", i), Policy: 1 + i%2, Slots: 1 + i%4, Health: make([]bool, 4-i%4)})
		c.Clusters[i].Health[0] = true
	}
	for i := range routes {
		host := []string{"*", "*.b", "a.b"}[i%3]
		c.Routes = append(c.Routes, api.Route{Listen: fmt.Sprintf("in%d", i%max(listens, 1)), Host: host, Path: fmt.Sprintf("/p%d", i), Cluster: fmt.Sprintf("g%d", i%max(clusters, 1))})
	}
	return c
}

// full is a configuration that passes, of as many parts as may be.
func full() api.Config { return sized(api.MaxListens, api.MaxRoutes, api.MaxClusters) }

// copied is c in memory of its own.
func copied(c api.Config) api.Config {
	c.Listens, c.Routes, c.Clusters = slices.Clone(c.Listens), slices.Clone(c.Routes), slices.Clone(c.Clusters)
	for i := range c.Clusters {
		c.Clusters[i].Health = slices.Clone(c.Clusters[i].Health)
	}
	return c
}

// listenNamed names a listener anew, for its routes too, so that these have no error of their own.
func listenNamed(c *api.Config, i int, name string) {
	for k := range c.Routes {
		if c.Routes[k].Listen == c.Listens[i] {
			c.Routes[k].Listen = name
		}
	}
	c.Listens[i] = name
}

// clusterNamed names a cluster anew, for its routes too.
func clusterNamed(c *api.Config, i int, name string) {
	for k := range c.Routes {
		if c.Routes[k].Cluster == c.Clusters[i].Name {
			c.Routes[k].Cluster = name
		}
	}
	c.Clusters[i].Name = name
}

// change makes one error, of part i of its kind; from is the first part that can have it.
type change struct {
	kind, from int
	e          api.Errno
	at         func(c *api.Config, i int)
}

// alikes makes route i alike to the one ahead of it, but for its Cluster.
func alikes(c *api.Config, i int) {
	cluster := c.Routes[i].Cluster
	c.Routes[i] = c.Routes[i-1]
	c.Routes[i].Cluster = cluster
}

// changes are all errors that a part can have, each kind of part in the order in which P5.1 tells them.
func changes() []change {
	return []change{
		{listens, 0, api.ErrName, func(c *api.Config, i int) { listenNamed(c, i, "In") }},
		{listens, 1, api.ErrTwice, func(c *api.Config, i int) { listenNamed(c, i, c.Listens[i-1]) }},
		{clusters, 0, api.ErrName, func(c *api.Config, i int) { clusterNamed(c, i, "g_") }},
		{clusters, 1, api.ErrTwice, func(c *api.Config, i int) { clusterNamed(c, i, c.Clusters[i-1].Name) }},
		{clusters, 0, api.ErrPolicy, func(c *api.Config, i int) { c.Clusters[i].Policy = 3 }},
		{clusters, 0, api.ErrSlots, func(c *api.Config, i int) { c.Clusters[i].Slots = 5 }},
		{clusters, 0, api.ErrLimit, func(c *api.Config, i int) { c.Clusters[i].Health = nil }},
		{routes, 0, api.ErrNone, func(c *api.Config, i int) { c.Routes[i].Listen = "none" }},
		{routes, 0, api.ErrHost, func(c *api.Config, i int) { c.Routes[i].Host = "*b" }},
		{routes, 0, api.ErrPath, func(c *api.Config, i int) { c.Routes[i].Path = "p" }},
		{routes, 0, api.ErrNone, func(c *api.Config, i int) { c.Routes[i].Cluster = "none" }},
		{routes, 1, api.ErrTwice, alikes},
	}
}

// parted is how many parts of a kind c has.
func parted(c api.Config, kind int) int {
	return []int{0, len(c.Listens), len(c.Clusters), len(c.Routes)}[kind]
}

// placed are all changes, at all parts of full that can have them.
func placed() iter.Seq2[change, int] {
	return func(yield func(change, int) bool) {
		for _, x := range changes() {
			for i := x.from; i < parted(full(), x.kind); i++ {
				if !yield(x, i) {
					return
				}
			}
		}
	}
}

// TestOrdinary is P5.1 of configurations that pass.
func TestOrdinary(t *testing.T) {
	check(t, api.Config{
		Listens:  []string{"web"},
		Routes:   []api.Route{{Listen: "web", Host: "*", Path: "/", Cluster: "app"}},
		Clusters: []api.Cluster{{Name: "app", Policy: api.RoundRobin, Slots: 1, Health: []bool{true}}},
	}, api.OK, 0)
	check(t, api.Config{
		Listens: []string{"web", "admin-1"},
		Routes: []api.Route{
			{Listen: "web", Host: "*.example.org", Path: "/", Cluster: "app"},
			{Listen: "web", Host: "www.example.org", Path: "/", Cluster: "app"},
			{Listen: "web", Host: "*.example.org", Path: "/static/", Cluster: "static"},
			{Listen: "admin-1", Host: "*.example.org", Path: "/", Cluster: "app"},
		},
		Clusters: []api.Cluster{
			{Name: "app", Policy: api.LeastRequest, Slots: 4, Health: []bool{true, false, true, true}},
			{Name: "static", Policy: api.RoundRobin, Slots: 2, Health: []bool{false}},
		},
	}, api.OK, 0)
}

// TestSizes is P5.1 of how many parts there may be: none, one, as many as the limit, and more.
func TestSizes(t *testing.T) {
	for listens := range 7 {
		for routes := range 11 {
			for clusters := range 7 {
				c := sized(listens, routes, clusters)
				checked(t, c)
				few := listens == 0 || routes == 0 || clusters == 0
				if few || listens > 4 || routes > 8 || clusters > 4 {
					check(t, c, api.ErrLimit, 0)
				} else {
					check(t, c, api.OK, 0)
				}
			}
		}
	}
}

// TestEmpty is P5.1 of lists that have nothing, or are nil.
func TestEmpty(t *testing.T) {
	check(t, api.Config{}, api.ErrLimit, 0)
	check(t, api.Config{Listens: []string{}, Routes: []api.Route{}, Clusters: []api.Cluster{}}, api.ErrLimit, 0)
	for i := range 7 {
		c := full()
		if i&1 == 0 {
			c.Listens = nil
		}
		if i&2 == 0 {
			c.Routes = nil
		}
		if i&4 == 0 {
			c.Clusters = nil
		}
		check(t, c, api.ErrLimit, 0)
	}
	for i := range 3 {
		c := full()
		[]func(){func() { c.Listens = []string{} }, func() { c.Routes = []api.Route{} }, func() { c.Clusters = []api.Cluster{} }}[i]()
		check(t, c, api.ErrLimit, 0)
	}
	// There are parts, but nothing in them.
	check(t, api.Config{Listens: make([]string, 1), Routes: make([]api.Route, 1), Clusters: make([]api.Cluster, 1)}, api.ErrName, 0)
}

// TestMany is P5.1 of far more parts than may be.
func TestMany(t *testing.T) {
	for _, n := range []int{5, 9, 260, 1 << 16, 1 << 20} {
		c := full()
		c.Listens = make([]string, n)
		check(t, c, api.ErrLimit, 0)
		c = full()
		c.Clusters = make([]api.Cluster, n)
		check(t, c, api.ErrLimit, 0)
		c = full()
		c.Routes = make([]api.Route, max(n, 9))
		check(t, c, api.ErrLimit, 0)
		c = full()
		c.Clusters[2].Health = make([]bool, n)
		check(t, c, api.ErrLimit, 2)
	}
}

// TestAlone is P5.1 of each error alone, at each part that can have it.
func TestAlone(t *testing.T) {
	for x, i := range placed() {
		c := full()
		x.at(&c, i)
		if l := faults(c); len(l) != 1 {
			t.Fatalf("the change makes %v, not one fault", l)
		}
		check(t, c, x.e, i)
	}
}

// TestTwo is P5.1 of two errors at once: of Listens ahead of Clusters ahead of Routes, of an earlier part ahead of a later one, and of one part in the promise's order.
func TestTwo(t *testing.T) {
	for x, i := range placed() {
		for y, k := range placed() {
			c := full()
			x.at(&c, i)
			y.at(&c, k)
			checked(t, c)
			switch {
			case x.kind < y.kind:
				check(t, c, x.e, i)
			case x.kind == y.kind && i < k && k < parted(c, x.kind) && y.from == 0:
				check(t, c, x.e, i)
			}
		}
	}
}

// TestLimitFirst is P5.1 of too few or too many parts with other errors: these are told by nothing.
func TestLimitFirst(t *testing.T) {
	for x, i := range placed() {
		for k := range 6 {
			c := full()
			x.at(&c, i)
			switch k {
			case 0:
				c.Listens = append(c.Listens, "more")
			case 1:
				c.Clusters = append(c.Clusters, c.Clusters[0])
			case 2:
				c.Routes = append(c.Routes, c.Routes[0])
			case 3:
				c.Listens = nil
			case 4:
				c.Clusters = nil
			case 5:
				c.Routes = nil
			}
			check(t, c, api.ErrLimit, 0)
		}
	}
}

// TestOnePart is P5.1 of all errors that one part can have at once, in the promise's order.
func TestOnePart(t *testing.T) {
	for _, kind := range []int{listens, clusters, routes} {
		var l []change
		for _, x := range changes() {
			if x.kind == kind && x.e != api.ErrTwice {
				l = append(l, x)
			}
		}
		for i := range parted(full(), kind) {
			for set := 1; set < 1<<len(l); set++ {
				c := full()
				var want api.Errno
				for k, x := range l {
					if set>>k&1 == 0 {
						continue
					}
					x.at(&c, i)
					if want == api.OK {
						want = x.e
					}
				}
				check(t, c, want, i)
				checked(t, c)
			}
		}
	}
}

// TestTwiceAmongOthers is P5.1 of ErrTwice beside another error of the same part: a cluster's goes ahead of its Policy, Slots and Health, a route's comes behind its Cluster.
func TestTwiceAmongOthers(t *testing.T) {
	for i := 1; i < api.MaxClusters; i++ {
		c := full()
		c.Clusters[i] = api.Cluster{Name: c.Clusters[0].Name, Policy: 3, Slots: 5}
		check(t, c, api.ErrTwice, i)
	}
	for i := 1; i < api.MaxRoutes; i++ {
		c := full()
		alikes(&c, i)
		c.Routes[i].Cluster = "none"
		check(t, c, api.ErrNone, i)
	}
	// The first one of a wrong name is told ahead of the next one that has it too.
	c := full()
	c.Listens[1], c.Listens[3] = "", ""
	check(t, c, api.ErrName, 1)
	c = full()
	c.Clusters[1].Name, c.Clusters[3].Name = "", ""
	check(t, c, api.ErrName, 1)
	c = full()
	c.Routes[2].Host = ""
	c.Routes[4] = c.Routes[2]
	check(t, c, api.ErrHost, 2)
}

// TestTwice is P5.1 of a name that is there twice, with others between, and of which one of them is told.
func TestTwice(t *testing.T) {
	for i := range 4 {
		for k := i + 1; k < 4; k++ {
			c := full()
			listenNamed(&c, k, c.Listens[i])
			check(t, c, api.ErrTwice, k)
			c = full()
			clusterNamed(&c, k, c.Clusters[i].Name)
			check(t, c, api.ErrTwice, k)
		}
	}
	for i := range 8 {
		for k := i + 1; k < 8; k++ {
			c := full()
			c.Routes[k] = c.Routes[i]
			check(t, c, api.ErrTwice, k)
		}
	}
	c := full()
	c.Listens = []string{"a", "b", "b", "a"}
	check(t, c, api.ErrTwice, 2)
	c = full()
	c.Clusters[1].Name, c.Clusters[2].Name, c.Clusters[3].Name = "b", "b", c.Clusters[0].Name
	check(t, c, api.ErrTwice, 2)
	// A listener and a cluster may have one name.
	c = full()
	for i := range 4 {
		listenNamed(&c, i, "same"+c.Clusters[i].Name)
		clusterNamed(&c, i, c.Listens[i])
	}
	check(t, c, api.OK, 0)
	// Names that begin or end alike are not the same.
	c = full()
	c.Routes = c.Routes[:1]
	c.Listens = []string{"in0", "in", "n0", "in00"}
	check(t, c, api.OK, 0)
}

// TestAlike is P5.1 of two routes that are alike but for one field.
func TestAlike(t *testing.T) {
	for i := range 8 {
		for k := range 8 {
			if i == k {
				continue
			}
			c := full()
			c.Routes[k] = c.Routes[i]
			check(t, c, api.ErrTwice, max(i, k))
			c.Routes[k].Cluster = c.Clusters[(i+1)%4].Name
			check(t, c, api.ErrTwice, max(i, k))
			c.Routes[k] = c.Routes[i]
			c.Routes[k].Listen = c.Listens[(i+1)%4]
			check(t, c, api.OK, 0)
			c.Routes[k] = c.Routes[i]
			c.Routes[k].Host = "other"
			check(t, c, api.OK, 0)
			c.Routes[k] = c.Routes[i]
			c.Routes[k].Path += "/"
			check(t, c, api.OK, 0)
		}
	}
	// Fields are held against each other one by one, not as one text.
	c := full()
	c.Listens[0], c.Listens[1] = "ab", "a"
	c.Routes = []api.Route{{Listen: "ab", Host: "c", Path: "/", Cluster: "g0"}, {Listen: "a", Host: "bc", Path: "/", Cluster: "g0"}}
	check(t, c, api.OK, 0)
	// A host and a pattern that means it are not the same.
	c.Routes = []api.Route{{Listen: "a", Host: "x.b", Path: "/", Cluster: "g0"}, {Listen: "a", Host: "*.b", Path: "/", Cluster: "g0"}, {Listen: "a", Host: "b", Path: "/", Cluster: "g0"}, {Listen: "a", Host: "*", Path: "/", Cluster: "g0"}}
	check(t, c, api.OK, 0)
}

// TestNumbers is P5.1 of Policy and Slots, whatever ints they are.
func TestNumbers(t *testing.T) {
	numbers := []int{math.MinInt, math.MinInt + 1, -1 << 32, math.MinInt32, -257, -256, -5, -4, -3, -2, -1, 0, 1, 2, 3, 4, 5, 6, 256, 257, 258, 1 << 16, 1<<16 + 1, math.MaxInt32, 1 << 32, 1<<32 + 1, 1<<32 + 2, 1<<62 + 1, math.MaxInt}
	for i := range 4 {
		for _, n := range numbers {
			c := full()
			c.Clusters[i].Policy = n
			if n == 1 || n == 2 {
				check(t, c, api.OK, 0)
			} else {
				check(t, c, api.ErrPolicy, i)
			}
			c = full()
			c.Clusters[i].Slots = n
			if n >= 1 && n <= 4 {
				check(t, c, api.OK, 0)
			} else {
				check(t, c, api.ErrSlots, i)
			}
		}
	}
}

// TestHealth is P5.1 of Health: how many endpoints it has, whichever of them are healthy.
func TestHealth(t *testing.T) {
	for i := range 4 {
		c := full()
		c.Clusters[i].Health = nil
		check(t, c, api.ErrLimit, i)
		for n := range 8 {
			for set := range 1 << n {
				c = full()
				c.Clusters[i].Health = make([]bool, n)
				for k := range n {
					c.Clusters[i].Health[k] = set>>k&1 == 1
				}
				if n >= 1 && n <= 4 {
					check(t, c, api.OK, 0)
				} else {
					check(t, c, api.ErrLimit, i)
				}
			}
		}
	}
}

// of is a text of n bytes, which are those of s, again and again.
func of(s string, n int) string { return strings.Repeat(s, n)[:n] }

// TestTexts is P5.1 of names, patterns and paths, ordinary ones, edges, and wrong ones.
func TestTexts(t *testing.T) {
	texts := []string{
		"", "a", "z", "a0", "a-", "web-2", "0", "-", "1a", "-a", "A", "aB", "a_b", "a b", " a", "a ", "a\n", "a\x00", "é", "aé", "\xff", "a\xff",
		of("a", 15), of("a", 16), of("a", 17), of("a", 32), of("a", 1<<20),
		".", "a.b", "a.", ".a", "a..b", "a.1", "a.b.c", "a.B", of("a.", 31), of("a.", 33), of("a", 16) + "." + of("b", 15), of("a", 16) + "." + of("b", 16),
		"*", "**", "*.", "*a", "*.a", "*.a.b", "*.*", "a.*", "*.A", "*.1", "*." + of("a.", 31), "*." + of("a.", 33), "*." + of("a", 16), "*." + of("a", 17), "*/",
		"/", "//", "/a", "/a/", "/a/b-c/0", "/A", "/a.b", "/*", "/a\n", "/é", "a/", "/" + of("a", 31), "/" + of("a", 32), of("/", 32), of("/", 33), of("/", 1<<20),
	}
	for _, s := range texts {
		for i := range 4 {
			c := full()
			listenNamed(&c, i, s)
			checked(t, c)
			c = full()
			clusterNamed(&c, i, s)
			checked(t, c)
		}
		for i := range 8 {
			c := full()
			c.Routes[i].Listen = s
			check(t, c, api.ErrNone, i)
			c = full()
			c.Routes[i].Cluster = s
			check(t, c, api.ErrNone, i)
			c = full()
			c.Routes[i].Host = s
			checked(t, c)
			c = full()
			c.Routes[i].Path = s
			checked(t, c)
		}
	}
}

// TestNone is P5.1 of routes that name a listener by a cluster's name, or the other way round, or one by a text that is nearly its name.
func TestNone(t *testing.T) {
	for i := range 8 {
		for _, name := range []string{"g0", "g1", "in", "n0", "in00", "IN0", "in0 ", " in0", "in4", ""} {
			c := full()
			c.Routes[i].Listen = name
			check(t, c, api.ErrNone, i)
		}
		for _, name := range []string{"in0", "in1", "g", "0", "g00", "G0", "g0 ", " g0", "g4", ""} {
			c := full()
			c.Routes[i].Cluster = name
			check(t, c, api.ErrNone, i)
		}
		for k := range 4 {
			c := full()
			c.Routes[i].Listen, c.Routes[i].Cluster = c.Listens[k], c.Clusters[k].Name
			check(t, c, api.OK, 0)
		}
	}
}

// drawn is a configuration of few different values, so that many are wrong in many ways, and many are right.
func drawn(r *rand.Rand) api.Config {
	one := func(l ...string) string { return l[r.Intn(len(l))] }
	name := func() string { return one("a", "a", "b", "b", "c", "d", "e", "A") }
	var c api.Config
	for range r.Intn(20) % 6 {
		c.Listens = append(c.Listens, name())
	}
	for range r.Intn(20) % 6 {
		c.Clusters = append(c.Clusters, api.Cluster{Name: name(), Policy: 1 + r.Intn(20)%3, Slots: 1 + r.Intn(20)%5, Health: make([]bool, (1+r.Intn(30))%6)})
	}
	for range r.Intn(30) % 10 {
		c.Routes = append(c.Routes, api.Route{Listen: one("a", "a", "b", "c"), Host: one("*", "*.a", "a.b", "a", "*.b.c", "b", "c", "*a"), Path: one("/", "/a", "/b", "/a/b", "/c", "/d", "/e", ""), Cluster: one("a", "a", "b", "b", "c", "d")})
	}
	return c
}

// TestDrawn is P5.1 of configurations that are drawn, always the same ones.
func TestDrawn(t *testing.T) {
	r, told := rand.New(rand.NewSource(5)), map[string]int{}
	for range 100000 {
		c := drawn(r)
		checked(t, c)
		e, i := Check(c)
		told[fmt.Sprint(e, " ", i)]++
	}
	for _, s := range []string{"0 0", "3 0", "3 2", "4 1", "4 3", "5 0", "5 2", "6 0", "6 1", "7 1", "8 1", "9 1", "10 1"} {
		if told[s] == 0 {
			t.Errorf("no configuration was drawn of which %s is told", s)
		}
	}
}

// TestRouteLess is P5.2 of configurations that pass: they do so without their last route, and without that one.
func TestRouteLess(t *testing.T) {
	less := func(c api.Config) {
		t.Helper()
		for ; len(c.Routes) > 0; c.Routes = c.Routes[:len(c.Routes)-1] {
			if e, i := Check(c); e != api.OK || i != 0 {
				t.Errorf("P5.2: %d, %d without the last routes: %s", e, i, short(c))
			}
		}
		check(t, c, api.ErrLimit, 0)
	}
	for n := range 8 {
		for m := range 16 {
			less(sized(1+m/4, 1+n, 1+m%4))
		}
	}
	for r, n := rand.New(rand.NewSource(52)), 0; n < 500; {
		c := sized(1+r.Intn(4), 1+r.Intn(8), 1+r.Intn(4))
		for i := range c.Routes {
			c.Routes[i].Listen, c.Routes[i].Path = c.Listens[r.Intn(len(c.Listens))], []string{"/", "/a"}[r.Intn(2)]
		}
		if len(faults(c)) == 0 {
			less(c)
			n++
		}
	}
}

// orders are all orders of the numbers below n.
func orders(n int) [][]int {
	if n == 0 {
		return [][]int{nil}
	}
	var l [][]int
	for _, o := range orders(n - 1) {
		for i := range n {
			l = append(l, slices.Insert(slices.Clone(o), i, n-1))
		}
	}
	return l
}

// ordered is l in that order.
func ordered[T any](l []T, order []int) []T {
	var to []T
	for _, i := range order {
		to = append(to, l[i])
	}
	return to
}

// passes is P5.2 of a configuration that is another one in another order.
func passes(t *testing.T, c api.Config) {
	t.Helper()
	if e, i := Check(c); e != api.OK || i != 0 {
		t.Errorf("P5.2: %d, %d in another order: %s", e, i, short(c))
	}
}

// TestOrders is P5.2 of the parts of a configuration in any other order.
func TestOrders(t *testing.T) {
	c := full()
	for _, o := range orders(4) {
		x := copied(c)
		x.Listens = ordered(c.Listens, o)
		passes(t, x)
		x = copied(c)
		x.Clusters = ordered(c.Clusters, o)
		passes(t, x)
		for _, p := range orders(4) {
			x = copied(c)
			x.Listens, x.Clusters, x.Routes = ordered(c.Listens, o), ordered(c.Clusters, p), ordered(c.Routes[:4], p)
			passes(t, x)
		}
	}
	for _, o := range orders(8) {
		x := c
		x.Routes = ordered(c.Routes, o)
		passes(t, x)
	}
}

// TestTwiceInAnyOrder is P5.2's other side: what is named twice is so in each order, and the later one of the two is told.
func TestTwiceInAnyOrder(t *testing.T) {
	c := full()
	listenNamed(&c, 3, c.Listens[0])
	for _, o := range orders(4) {
		x := copied(c)
		x.Listens = ordered(c.Listens, o)
		check(t, x, api.ErrTwice, max(slices.Index(o, 0), slices.Index(o, 3)))
	}
	c = full()
	clusterNamed(&c, 3, c.Clusters[0].Name)
	for _, o := range orders(4) {
		x := copied(c)
		x.Clusters = ordered(c.Clusters, o)
		check(t, x, api.ErrTwice, max(slices.Index(o, 0), slices.Index(o, 3)))
	}
	c = full()
	c.Routes = c.Routes[:5]
	alikes(&c, 4)
	for _, o := range orders(5) {
		x := copied(c)
		x.Routes = ordered(c.Routes, o)
		check(t, x, api.ErrTwice, max(slices.Index(o, 3), slices.Index(o, 4)))
	}
}

// TestStays is R2 of Check: what is handed in stays as it is, also behind the ends of its lists, and what is told hangs on nothing else.
func TestStays(t *testing.T) {
	for x, i := range placed() {
		c := full()
		x.at(&c, i)
		long := copied(c)
		long.Listens = append(long.Listens, "in0", "", "x")
		long.Routes = append(long.Routes, long.Routes[0], api.Route{})
		long.Clusters = append(long.Clusters, long.Clusters[0], api.Cluster{})
		was := copied(long)
		cut := long
		cut.Listens, cut.Routes, cut.Clusters = long.Listens[:4], long.Routes[:8], long.Clusters[:4]
		check(t, cut, x.e, i)
		check(t, cut, x.e, i)
		check(t, full(), api.OK, 0)
		if !reflect.DeepEqual(long, was) {
			t.Errorf("R2: %s became %s", short(was), short(long))
		}
	}
}
