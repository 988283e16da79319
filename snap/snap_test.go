package snap

import (
	"fmt"
	"math"
	"math/rand"
	"reflect"
	"slices"
	"strings"
	"testing"

	"hydrant/api"
	"hydrant/config"
	"hydrant/routes"
)

// sized is a configuration that passes, of so many listeners, routes and clusters. A route's listener and its cluster have unlike numbers where they can, and each has several routes where there are more of these.
func sized(listens, routes, clusters int) api.Config {
	var c api.Config
	for i := range listens {
		c.Listens = append(c.Listens, []string{"in", "out", "web", "admin-1"}[i])
	}
	for i := range clusters {
		// One name is a listener's and a cluster's, but not of the same number.
		name := []string{"app", "static", "in", "db"}[i]
		c.Clusters = append(c.Clusters, api.Cluster{Name: name, Policy: 1 + i%2, Slots: 4 - i, Health: make([]bool, 1+i)})
		c.Clusters[i].Health[i] = true
	}
	for i := range routes {
		c.Routes = append(c.Routes, api.Route{
			Listen:  c.Listens[i*3%4%listens],
			Host:    []string{"*", "*.b", "a.b"}[i%3],
			Path:    []string{"/", "/a", "/a/b", "/b", "/b/", "/c", "/d", "/e"}[i],
			Cluster: c.Clusters[(i+1)/2%clusters].Name,
		})
	}
	return c
}

// full is a configuration that passes, of as many parts as may be.
func full() api.Config { return sized(api.MaxListens, api.MaxRoutes, api.MaxClusters) }

// sizes are configurations that pass, of all numbers of parts that may be.
func sizes() []api.Config {
	var l []api.Config
	for i := range api.MaxListens {
		for k := range api.MaxRoutes {
			for n := range api.MaxClusters {
				l = append(l, sized(1+i, 1+k, 1+n))
			}
		}
	}
	return l
}

// numbered are the numbers of names, of several alike the first one's. The code goes through the names for each number, here they are a map.
func numbered(l []string) map[string]int {
	m := map[string]int{}
	for i, name := range slices.Backward(l) {
		m[name] = i
	}
	return m
}

// clusterNames are the names of clusters.
func clusterNames(l []api.Cluster) []string {
	var to []string
	for _, x := range l {
		to = append(to, x.Name)
	}
	return to
}

// made is P7.1's snapshot of a configuration that passes.
func made(c api.Config) api.Snap {
	listens, clusters := numbered(c.Listens), numbered(clusterNames(c.Clusters))
	s := api.Snap{Listens: c.Listens, Rules: make([]api.Rule, len(c.Routes)), Clusters: c.Clusters}
	for i, r := range c.Routes {
		s.Rules[i] = api.Rule{Listen: listens[r.Listen], Host: r.Host, Path: r.Path, Cluster: clusters[r.Cluster]}
	}
	return s
}

// named are the names by their numbers; of all other numbers a map has the empty text.
func named(l []string) map[int]string {
	m := map[int]string{}
	for i, name := range l {
		m[i] = name
	}
	return m
}

// unmade is P7.2's configuration of a snapshot.
func unmade(s api.Snap) api.Config {
	listens, clusters := named(s.Listens), named(clusterNames(s.Clusters))
	c := api.Config{Listens: s.Listens, Routes: make([]api.Route, len(s.Rules)), Clusters: s.Clusters}
	for i, r := range s.Rules {
		c.Routes[i] = api.Route{Listen: listens[r.Listen], Host: r.Host, Path: r.Path, Cluster: clusters[r.Cluster]}
	}
	return c
}

// short is what x says, but no more of it than somebody would read.
func short(x any) string {
	s := fmt.Sprintf("%+q", fmt.Sprintf("%+v", x))
	return s[:min(len(s), 1000)]
}

func sameClusters(a, b []api.Cluster) bool {
	return slices.EqualFunc(a, b, func(a, b api.Cluster) bool {
		return a.Name == b.Name && a.Policy == b.Policy && a.Slots == b.Slots && slices.Equal(a.Health, b.Health)
	})
}

// sameSnap is whether a and b say the same, by R2: a list that is empty may be nil.
func sameSnap(a, b api.Snap) bool {
	return slices.Equal(a.Listens, b.Listens) && slices.Equal(a.Rules, b.Rules) && sameClusters(a.Clusters, b.Clusters)
}

// sameConfig is whether a and b say the same.
func sameConfig(a, b api.Config) bool {
	return slices.Equal(a.Listens, b.Listens) && slices.Equal(a.Routes, b.Routes) && sameClusters(a.Clusters, b.Clusters)
}

// built holds what is built of c, which passes, against want, and tells it.
func built(t *testing.T, c api.Config, want api.Snap) api.Snap {
	t.Helper()
	s, e, i := Build(c)
	if e != api.OK || i != 0 || !sameSnap(s, want) {
		t.Errorf("P7.1: %s, %d, %d; want %s, of %s", short(s), e, i, short(want), short(c))
	}
	return s
}

// rejected holds what is told of c, which does not pass, against an error and a number.
func rejected(t *testing.T, c api.Config, want api.Errno, part int) {
	t.Helper()
	s, e, i := Build(c)
	if e != want || i != part || !reflect.DeepEqual(s, api.Snap{}) {
		t.Errorf("P7.1: %s, %d, %d; want nothing, %d, %d, of %s", short(s), e, i, want, part, short(c))
	}
}

// shown holds the configuration of s, and whether s is a snapshot, against want and is.
func shown(t *testing.T, s api.Snap, want api.Config, is bool) {
	t.Helper()
	if c := Config(s); !sameConfig(c, want) {
		t.Errorf("P7.2: %s; want %s, of %s", short(c), short(want), short(s))
	}
	if Is(s) != is {
		t.Errorf("P7.2: %t is not so of %s", !is, short(s))
	}
}

// looked holds what is shown of s against P7.2's words.
func looked(t *testing.T, s api.Snap) {
	t.Helper()
	c := unmade(s)
	e, _ := config.Check(c)
	shown(t, s, c, e == api.OK)
}

// request is what a cluster is sought for.
type request struct{ listen, host, path string }

// find holds what is found of q in s against a number and an error.
func find(t *testing.T, s api.Snap, q request, want int, e api.Errno) {
	t.Helper()
	if n, got := Find(s, q.listen, q.host, q.path); n != want || got != e {
		t.Errorf("P7.3: Find of %+v: %d, %d; want %d, %d, of %s", q, n, got, want, e, short(s))
	}
}

// sought is P7.3.
func sought(s api.Snap, q request) (int, api.Errno) {
	n, has := numbered(s.Listens)[q.listen]
	if !has {
		return 0, api.ErrName
	}
	i, e := routes.Best(s.Rules, n, q.host, q.path)
	if e != api.OK {
		return 0, api.ErrNone
	}
	return s.Rules[i].Cluster, api.OK
}

// asks are requests of all listeners of s, and of some that there are none of.
func asks(s api.Snap) []request {
	var l []request
	for _, listen := range append(slices.Clone(s.Listens), "none", "") {
		for _, host := range []string{"a", "b", "a.b", "x.a.b", "q", "*", "*.b", ""} {
			for _, path := range []string{"/", "/a", "/a/b", "/a/b/c", "/b", "/b/c", "/e", "/z", "a", ""} {
				l = append(l, request{listen, host, path})
			}
		}
	}
	return l
}

// numbers are ints that are no numbers of n parts, or just are: the last one, as many as there are, and far above and below.
func numbers(n int) []int {
	return []int{0, n - 1, n, n + 1, -1, -2, -n, 1<<32 + n - 1, 1 << 32, -1 << 32, math.MinInt32, math.MaxInt32, math.MinInt, math.MinInt + 1, math.MaxInt - 1, math.MaxInt}
}

// TestBuild is P7.1 of a configuration of two listeners and two clusters, each of which several routes name.
func TestBuild(t *testing.T) {
	c := api.Config{
		Listens: []string{"web", "admin"},
		Routes: []api.Route{
			{Listen: "admin", Host: "*", Path: "/", Cluster: "app"},
			{Listen: "web", Host: "*.b", Path: "/a", Cluster: "db"},
			{Listen: "web", Host: "*.b", Path: "/", Cluster: "app"},
			{Listen: "admin", Host: "a.b", Path: "/a/b-0", Cluster: "db"},
			{Listen: "web", Host: "a.b", Path: "/", Cluster: "db"},
		},
		Clusters: []api.Cluster{
			{Name: "app", Policy: api.LeastRequest, Slots: 4, Health: []bool{true, false, true}},
			{Name: "db", Policy: api.RoundRobin, Slots: 1, Health: []bool{false}},
		},
	}
	built(t, c, api.Snap{
		Listens: []string{"web", "admin"},
		Rules: []api.Rule{
			{Listen: 1, Host: "*", Path: "/", Cluster: 0},
			{Listen: 0, Host: "*.b", Path: "/a", Cluster: 1},
			{Listen: 0, Host: "*.b", Path: "/", Cluster: 0},
			{Listen: 1, Host: "a.b", Path: "/a/b-0", Cluster: 1},
			{Listen: 0, Host: "a.b", Path: "/", Cluster: 1},
		},
		Clusters: []api.Cluster{
			{Name: "app", Policy: api.LeastRequest, Slots: 4, Health: []bool{true, false, true}},
			{Name: "db", Policy: api.RoundRobin, Slots: 1, Health: []bool{false}},
		},
	})
}

// TestBuildSizes is P7.1 of configurations of all sizes that may be.
func TestBuildSizes(t *testing.T) {
	for _, c := range sizes() {
		built(t, c, made(c))
	}
}

// TestBuildPairs is P7.1 of a route of each listener and each cluster, at each place.
func TestBuildPairs(t *testing.T) {
	for place := range api.MaxRoutes {
		for listen := range api.MaxListens {
			for cluster := range api.MaxClusters {
				c := full()
				c.Routes[place].Listen, c.Routes[place].Cluster = c.Listens[listen], c.Clusters[cluster].Name
				s := built(t, c, made(c))
				if want := (api.Rule{Listen: listen, Host: c.Routes[place].Host, Path: c.Routes[place].Path, Cluster: cluster}); s.Rules[place] != want {
					t.Errorf("P7.1: %+v; want %+v", s.Rules[place], want)
				}
			}
		}
	}
}

// TestBuildNames is P7.1 of names that begin or end alike, or that listeners and clusters have in common.
func TestBuildNames(t *testing.T) {
	c := full()
	alike := []string{"aa", "a", "aaa", strings.Repeat("a", api.MaxName)}
	for i := range alike {
		c.Listens[i], c.Clusters[i].Name = alike[i], alike[3-i]
	}
	for i := range c.Routes {
		c.Routes[i].Listen, c.Routes[i].Cluster = alike[i%4], alike[i/2]
	}
	s := built(t, c, made(c))
	for i, r := range s.Rules {
		if r.Listen != i%4 || r.Cluster != 3-i/2 {
			t.Errorf("P7.1: rule %d is %+v", i, r)
		}
	}
	// A route may name one text twice, once as its listener and once as its cluster.
	for i := range c.Routes {
		c.Routes[i].Listen, c.Routes[i].Cluster = alike[i%4], alike[i%4]
	}
	for i, r := range built(t, c, made(c)).Rules {
		if r.Listen != i%4 || r.Cluster != 3-i%4 {
			t.Errorf("P7.1: rule %d is %+v", i, r)
		}
	}
}

// TestBuildUnused is P7.1 of listeners and clusters that no route names: they stay where they are.
func TestBuildUnused(t *testing.T) {
	for i := range 4 {
		c := full()
		c.Routes = []api.Route{{Listen: c.Listens[i], Host: "*", Path: "/", Cluster: c.Clusters[3-i].Name}}
		built(t, c, api.Snap{Listens: full().Listens, Rules: []api.Rule{{Listen: i, Host: "*", Path: "/", Cluster: 3 - i}}, Clusters: full().Clusters})
	}
}

// change makes one error, of a part.
type change struct {
	e     api.Errno
	parts int
	at    func(c *api.Config, i int)
}

// changes are errors of all kinds, and how many parts of full can have each.
func changes() []change {
	return []change{
		{api.ErrLimit, 1, func(c *api.Config, i int) { *c = api.Config{} }},
		{api.ErrLimit, 1, func(c *api.Config, i int) { c.Listens = nil }},
		{api.ErrLimit, 1, func(c *api.Config, i int) { c.Listens = append(c.Listens, "more") }},
		{api.ErrLimit, 1, func(c *api.Config, i int) { c.Routes = []api.Route{} }},
		{api.ErrLimit, 1, func(c *api.Config, i int) {
			c.Routes = append(c.Routes, api.Route{Listen: "in", Host: "more", Path: "/", Cluster: "in"})
		}},
		{api.ErrLimit, 1, func(c *api.Config, i int) { c.Clusters = c.Clusters[:0] }},
		{api.ErrLimit, 1, func(c *api.Config, i int) {
			c.Clusters = append(c.Clusters, api.Cluster{Name: "more", Policy: 1, Slots: 1, Health: []bool{true}})
		}},
		{api.ErrName, 4, func(c *api.Config, i int) { c.Listens[i] = "" }},
		{api.ErrName, 4, func(c *api.Config, i int) { c.Listens[i] = strings.Repeat("a", api.MaxName+1) }},
		{api.ErrTwice, 4, func(c *api.Config, i int) {
			// The one ahead takes the name of the one that stood there first.
			c.Listens[i] = c.Listens[(i+1)%4]
		}},
		{api.ErrName, 4, func(c *api.Config, i int) { c.Clusters[i].Name = "App" }},
		{api.ErrPolicy, 4, func(c *api.Config, i int) { c.Clusters[i].Policy = 0 }},
		{api.ErrPolicy, 4, func(c *api.Config, i int) { c.Clusters[i].Policy = 3 }},
		{api.ErrSlots, 4, func(c *api.Config, i int) { c.Clusters[i].Slots = 0 }},
		{api.ErrSlots, 4, func(c *api.Config, i int) { c.Clusters[i].Slots = api.MaxSlots + 1 }},
		{api.ErrLimit, 4, func(c *api.Config, i int) { c.Clusters[i].Health = nil }},
		{api.ErrLimit, 4, func(c *api.Config, i int) { c.Clusters[i].Health = make([]bool, api.MaxEnds+1) }},
		{api.ErrNone, 8, func(c *api.Config, i int) { c.Routes[i].Listen = "app" }},
		{api.ErrNone, 8, func(c *api.Config, i int) { c.Routes[i].Listen = "" }},
		{api.ErrHost, 8, func(c *api.Config, i int) { c.Routes[i].Host = "*b" }},
		{api.ErrPath, 8, func(c *api.Config, i int) { c.Routes[i].Path = "a" }},
		{api.ErrNone, 8, func(c *api.Config, i int) { c.Routes[i].Cluster = "out" }},
		{api.ErrNone, 8, func(c *api.Config, i int) { c.Routes[i].Cluster = "" }},
	}
}

// TestBuildErrors is P7.1 of configurations that do not pass, of each error at each part.
func TestBuildErrors(t *testing.T) {
	for _, x := range changes() {
		for i := range x.parts {
			c := full()
			x.at(&c, i)
			part := i
			if x.e == api.ErrTwice {
				part = max(i, (i+1)%4)
			}
			rejected(t, c, x.e, part)
		}
	}
	for i := range 8 {
		for k := range i {
			c := full()
			c.Routes[i] = c.Routes[k]
			c.Routes[i].Cluster = "db"
			rejected(t, c, api.ErrTwice, i)
		}
	}
	for i := range 4 {
		for k := range i {
			c := full()
			c.Clusters[i].Name = c.Clusters[k].Name
			rejected(t, c, api.ErrTwice, i)
		}
	}
	rejected(t, api.Config{}, api.ErrLimit, 0)
	rejected(t, api.Config{Listens: make([]string, 1), Routes: make([]api.Route, 1), Clusters: make([]api.Cluster, 1)}, api.ErrName, 0)
	for _, n := range []int{260, 1 << 20} {
		rejected(t, api.Config{Listens: make([]string, n), Routes: make([]api.Route, n), Clusters: make([]api.Cluster, n)}, api.ErrLimit, 0)
	}
}

// TestBuildTwoErrors is P7.1 of two errors at once: which one is told is Check's to say.
func TestBuildTwoErrors(t *testing.T) {
	for _, x := range changes() {
		for _, y := range changes() {
			c := full()
			x.at(&c, x.parts-1)
			if len(c.Listens) != 4 || len(c.Routes) != 8 || len(c.Clusters) != 4 {
				continue
			}
			y.at(&c, 0)
			e, i := config.Check(c)
			rejected(t, c, e, i)
		}
	}
}

// drawnConfig is a configuration of few different values, so that many pass, and many do not.
func drawnConfig(r *rand.Rand) api.Config {
	one := func(l ...string) string { return l[r.Intn(len(l))] }
	var c api.Config
	for range 1 + r.Intn(3) {
		c.Listens = append(c.Listens, one("a", "b", "c", "d", "e", "f", "g", "h"))
	}
	for range 1 + r.Intn(3) {
		c.Clusters = append(c.Clusters, api.Cluster{Name: one("a", "b", "c", "d", "e", "f", "g", "h"), Policy: 1 + r.Intn(2), Slots: 1 + r.Intn(4), Health: make([]bool, 1+r.Intn(4))})
	}
	for range 1 + r.Intn(9) {
		c.Routes = append(c.Routes, api.Route{Listen: c.Listens[r.Intn(len(c.Listens))], Host: one("*", "*.a", "a.b", "a", "*.b"), Path: one("/", "/a", "/b", "/a/b"), Cluster: c.Clusters[r.Intn(len(c.Clusters))].Name})
	}
	switch r.Intn(12) {
	case 0:
		c.Routes[0].Listen = one("a", "b")
	case 1:
		c.Routes[0].Cluster = one("a", "b")
	}
	return c
}

// TestBuildDrawn is P7.1, P7.2 and P7.4 of configurations that are drawn, always the same ones.
func TestBuildDrawn(t *testing.T) {
	r, count := rand.New(rand.NewSource(71)), map[bool]int{}
	for range 20000 {
		c := drawnConfig(r)
		e, i := config.Check(c)
		count[e == api.OK]++
		if e != api.OK {
			rejected(t, c, e, i)
			continue
		}
		again(t, c)
	}
	// Few of them alone would make this test idle.
	if count[true] < 1000 || count[false] < 1000 {
		t.Errorf("%v pass, and do not", count)
	}
}

// TestConfig is P7.2 of a snapshot that was built of nothing: its numbers are in order, but its texts are none that may be.
func TestConfig(t *testing.T) {
	s := api.Snap{
		Listens:  []string{"", "In", "in"},
		Rules:    []api.Rule{{Listen: 1, Host: "*b", Path: "a", Cluster: 0}, {Listen: 0, Host: "", Path: "", Cluster: 1}, {Listen: 2, Host: "\xff", Path: "é", Cluster: 1}},
		Clusters: []api.Cluster{{Name: "app", Policy: 7, Slots: -1}, {Name: "", Health: make([]bool, 9)}},
	}
	shown(t, s, api.Config{
		Listens:  s.Listens,
		Routes:   []api.Route{{Listen: "In", Host: "*b", Path: "a", Cluster: "app"}, {Listen: "", Host: "", Path: "", Cluster: ""}, {Listen: "in", Host: "\xff", Path: "é", Cluster: ""}},
		Clusters: s.Clusters,
	}, false)
}

// TestConfigNothing is P7.2 of snapshots that have nothing, or of one kind alone.
func TestConfigNothing(t *testing.T) {
	shown(t, api.Snap{}, api.Config{}, false)
	shown(t, api.Snap{Listens: []string{}, Rules: []api.Rule{}, Clusters: []api.Cluster{}}, api.Config{}, false)
	shown(t, api.Snap{Rules: make([]api.Rule, 1)}, api.Config{Routes: make([]api.Route, 1)}, false)
	shown(t, api.Snap{Listens: []string{"in"}}, api.Config{Listens: []string{"in"}}, false)
	l := []api.Cluster{{Name: "app", Policy: 1, Slots: 1, Health: []bool{true}}}
	shown(t, api.Snap{Clusters: l}, api.Config{Clusters: l}, false)
	shown(t, api.Snap{Listens: []string{"in"}, Clusters: l}, api.Config{Listens: []string{"in"}, Clusters: l}, false)
}

// TestConfigNumbers is P7.2 of rules whose Listen or Cluster is any int: the empty text stands where there is none of that number, and no other field changes.
func TestConfigNumbers(t *testing.T) {
	for listens := range 6 {
		for clusters := range 6 {
			s := api.Snap{Listens: []string{"a", "b", "c", "d", "e"}[:listens]}
			for i := range clusters {
				s.Clusters = append(s.Clusters, api.Cluster{Name: string(rune('v' + i)), Policy: 1, Slots: 1, Health: []bool{true}})
			}
			for _, listen := range numbers(listens) {
				for _, cluster := range numbers(clusters) {
					s.Rules = append(s.Rules, api.Rule{Listen: listen, Host: "h", Path: "/", Cluster: cluster})
				}
			}
			c := Config(s)
			if len(c.Routes) != len(s.Rules) {
				t.Fatalf("P7.2: %d routes of %d rules", len(c.Routes), len(s.Rules))
			}
			for i, r := range s.Rules {
				want := api.Route{Host: "h", Path: "/"}
				if r.Listen >= 0 && r.Listen < listens {
					want.Listen = s.Listens[r.Listen]
				}
				if r.Cluster >= 0 && r.Cluster < clusters {
					want.Cluster = s.Clusters[r.Cluster].Name
				}
				if c.Routes[i] != want {
					t.Errorf("P7.2: %+v of %+v, of %d and %d", c.Routes[i], r, listens, clusters)
				}
			}
			looked(t, s)
		}
	}
}

// TestIsNumbers is P7.2 of snapshots that would be right, but for the number in one of their rules.
func TestIsNumbers(t *testing.T) {
	for _, c := range sizes() {
		for i := range c.Routes {
			for _, n := range numbers(len(c.Listens)) {
				s := built(t, c, made(c))
				// No other rule may come to be alike, for then that would be the error.
				s.Rules[i].Host = "other"
				s.Rules[i].Listen = n
				shown(t, s, unmade(s), n >= 0 && n < len(c.Listens))
			}
			for _, n := range numbers(len(c.Clusters)) {
				s := built(t, c, made(c))
				s.Rules[i].Cluster = n
				shown(t, s, unmade(s), n >= 0 && n < len(c.Clusters))
			}
		}
	}
}

// TestIs is P7.2 of snapshots that were never built, but are right.
func TestIs(t *testing.T) {
	s := api.Snap{
		Listens:  []string{"out", "in"},
		Rules:    []api.Rule{{Listen: 1, Host: "*.b", Path: "/a", Cluster: 0}, {Listen: 0, Host: "*.b", Path: "/a", Cluster: 0}},
		Clusters: []api.Cluster{{Name: "app", Policy: api.RoundRobin, Slots: 1, Health: []bool{false}}},
	}
	shown(t, s, api.Config{Listens: s.Listens, Routes: []api.Route{{Listen: "in", Host: "*.b", Path: "/a", Cluster: "app"}, {Listen: "out", Host: "*.b", Path: "/a", Cluster: "app"}}, Clusters: s.Clusters}, true)
	s.Rules = s.Rules[:1]
	shown(t, s, api.Config{Listens: s.Listens, Routes: []api.Route{{Listen: "in", Host: "*.b", Path: "/a", Cluster: "app"}}, Clusters: s.Clusters}, true)
}

// TestIsNot is P7.2 of snapshots with one thing that no configuration may have.
func TestIsNot(t *testing.T) {
	for _, f := range []func(s *api.Snap){
		func(s *api.Snap) { *s = api.Snap{} },
		func(s *api.Snap) { s.Listens = nil },
		func(s *api.Snap) { s.Rules = nil },
		func(s *api.Snap) { s.Clusters = nil },
		func(s *api.Snap) { s.Listens = append(s.Listens, "more") },
		func(s *api.Snap) { s.Rules = append(s.Rules, api.Rule{Host: "more", Path: "/"}) },
		func(s *api.Snap) { s.Clusters = append(s.Clusters, s.Clusters[0]) },
		func(s *api.Snap) { s.Listens[3] = "" },
		func(s *api.Snap) { s.Listens[3] = s.Listens[0] },
		func(s *api.Snap) { s.Clusters[3].Name = "" },
		func(s *api.Snap) { s.Clusters[3].Name = s.Clusters[0].Name },
		func(s *api.Snap) { s.Clusters[1].Policy = 3 },
		func(s *api.Snap) { s.Clusters[1].Slots = 5 },
		func(s *api.Snap) { s.Clusters[1].Health = nil },
		func(s *api.Snap) { s.Rules[7].Host = "" },
		func(s *api.Snap) { s.Rules[7].Path = "" },
		func(s *api.Snap) { s.Rules[7] = s.Rules[0] },
		func(s *api.Snap) { s.Rules[7] = s.Rules[0]; s.Rules[7].Cluster++ },
		// The empty text that stands for a number is no name, even if it is one of the names there.
		func(s *api.Snap) { s.Listens[3], s.Rules[7].Listen = "", 4 },
		func(s *api.Snap) { s.Clusters[3].Name, s.Rules[7].Cluster = "", -1 },
	} {
		s := built(t, full(), made(full()))
		f(&s)
		shown(t, s, unmade(s), false)
	}
}

// drawnSnap is a snapshot that nobody built, with numbers that may be none, and names that may stand there twice.
func drawnSnap(r *rand.Rand) api.Snap {
	c := drawnConfig(r)
	s := made(c)
	s.Listens = append(s.Listens, []string{"", "a", "b"}[:r.Intn(20)/17]...)
	for i := range s.Rules {
		if r.Intn(20) == 0 {
			l := numbers(len(s.Listens))
			s.Rules[i].Listen = l[r.Intn(len(l))]
		}
		if r.Intn(20) == 0 {
			l := numbers(len(s.Clusters))
			s.Rules[i].Cluster = l[r.Intn(len(l))]
		}
	}
	return s
}

// TestDrawn is P7.2 and P7.3 of snapshots that are drawn, always the same ones.
func TestDrawn(t *testing.T) {
	r, count, found := rand.New(rand.NewSource(72)), map[bool]int{}, map[api.Errno]int{}
	for range 5000 {
		s := drawnSnap(r)
		looked(t, s)
		count[Is(s)]++
		l := asks(s)
		for range 40 {
			q := l[r.Intn(len(l))]
			n, e := sought(s, q)
			find(t, s, q, n, e)
			found[e]++
		}
	}
	if count[true] < 500 || count[false] < 500 {
		t.Errorf("%v are snapshots, and are not", count)
	}
	if len(found) != 3 || found[api.OK] < 1000 || found[api.ErrName] < 1000 || found[api.ErrNone] < 1000 {
		t.Errorf("%v were found, by their errors", found)
	}
}

// served is a snapshot of three listeners, two of which have rules.
func served(t *testing.T) api.Snap {
	t.Helper()
	c := api.Config{
		Listens: []string{"web", "admin", "idle"},
		Routes: []api.Route{
			{Listen: "web", Host: "*", Path: "/", Cluster: "app"},
			{Listen: "web", Host: "*", Path: "/a", Cluster: "db"},
			{Listen: "web", Host: "*.b", Path: "/", Cluster: "static"},
			{Listen: "admin", Host: "*.b", Path: "/a", Cluster: "db"},
			{Listen: "admin", Host: "a.b", Path: "/a", Cluster: "app"},
		},
		Clusters: []api.Cluster{
			{Name: "static", Policy: 1, Slots: 1, Health: []bool{true}},
			{Name: "db", Policy: 2, Slots: 2, Health: []bool{false, true}},
			{Name: "app", Policy: 1, Slots: 4, Health: []bool{false}},
		},
	}
	return built(t, c, made(c))
}

// TestFind is P7.3 of several listeners, each of which has rules that fit, and rules that do not.
func TestFind(t *testing.T) {
	s := served(t)
	find(t, s, request{"web", "q", "/"}, 2, api.OK)
	find(t, s, request{"web", "q", "/a"}, 1, api.OK)
	find(t, s, request{"web", "q", "/a/c"}, 1, api.OK)
	find(t, s, request{"web", "q", "/ac"}, 2, api.OK)
	find(t, s, request{"web", "a.b", "/a"}, 0, api.OK)
	find(t, s, request{"web", "b", "/a"}, 1, api.OK)
	find(t, s, request{"admin", "a.b", "/a"}, 2, api.OK)
	find(t, s, request{"admin", "c.b", "/a"}, 1, api.OK)
	find(t, s, request{"admin", "x.a.b", "/a/c"}, 1, api.OK)
}

// TestFindNone is P7.3 of listeners that there are, but whose rules do not fit, or that have none.
func TestFindNone(t *testing.T) {
	s := served(t)
	for _, q := range []request{
		{"admin", "b", "/a"}, {"admin", "q", "/a"}, {"admin", "a.b", "/"}, {"admin", "c.b", "/ac"},
		{"idle", "a.b", "/a"}, {"idle", "q", "/"},
		{"web", "", "/"}, {"web", "*", "/"}, {"web", "*.b", "/"}, {"web", "A", "/"}, {"web", "q", ""}, {"web", "q", "a"}, {"web", "q", "/A"}, {"web", "", ""},
	} {
		find(t, s, q, 0, api.ErrNone)
	}
	find(t, api.Snap{Listens: []string{"in"}}, request{"in", "q", "/"}, 0, api.ErrNone)
	// The first rule that is told of no listener is not the one that fits by chance.
	find(t, api.Snap{Listens: []string{"in"}, Rules: []api.Rule{{Listen: 1, Host: "*", Path: "/", Cluster: 3}}}, request{"in", "q", "/"}, 0, api.ErrNone)
	find(t, api.Snap{Listens: []string{"in"}, Rules: []api.Rule{{Listen: -1, Host: "*", Path: "/", Cluster: 3}}}, request{"in", "q", "/"}, 0, api.ErrNone)
}

// TestFindName is P7.3 of listeners that there are none of: ErrName goes ahead of all else.
func TestFindName(t *testing.T) {
	s := served(t)
	for _, listen := range []string{"", "we", "eb", "webs", "Web", "web ", " web", "app", "static", "db", "web\x00", "0", "*"} {
		for _, q := range []request{{listen, "q", "/"}, {listen, "a.b", "/a"}, {listen, "", ""}, {listen, "q", "a"}} {
			find(t, s, q, 0, api.ErrName)
			find(t, api.Snap{}, q, 0, api.ErrName)
		}
	}
	// Rules of numbers that a search may come to when it finds nothing.
	for _, n := range numbers(3) {
		s.Rules = []api.Rule{{Listen: n, Host: "*", Path: "/", Cluster: 1}}
		find(t, s, request{"none", "q", "/"}, 0, api.ErrName)
		find(t, s, request{"", "q", "/"}, 0, api.ErrName)
		s.Listens = nil
		find(t, s, request{"web", "q", "/"}, 0, api.ErrName)
		s = served(t)
	}
}

// TestFindUnbuilt is P7.3 of snapshots that were never built: what is told is the rule's Cluster, also where it is no number of one, and listeners need no right names.
func TestFindUnbuilt(t *testing.T) {
	for _, n := range numbers(2) {
		s := api.Snap{
			Listens:  []string{"in", "", "In"},
			Rules:    []api.Rule{{Listen: 0, Host: "*", Path: "/", Cluster: n}, {Listen: 1, Host: "*.b", Path: "/", Cluster: n}, {Listen: 2, Host: "*.b", Path: "/", Cluster: 9}},
			Clusters: make([]api.Cluster, 2),
		}
		find(t, s, request{"in", "q", "/"}, n, api.OK)
		find(t, s, request{"", "a.b", "/"}, n, api.OK)
		find(t, s, request{"", "b", "/"}, 0, api.ErrNone)
		find(t, s, request{"In", "a.b", "/"}, 9, api.OK)
		find(t, s, request{"iN", "a.b", "/"}, 0, api.ErrName)
		s.Clusters = nil
		find(t, s, request{"in", "q", "/"}, n, api.OK)
	}
	// Of listeners of one name the first one's number is taken, whatever rules the other one has.
	s := api.Snap{Listens: []string{"x", "in", "in"}, Rules: []api.Rule{{Listen: 2, Host: "a", Path: "/a", Cluster: 2}, {Listen: 1, Host: "*", Path: "/", Cluster: 1}}}
	find(t, s, request{"in", "a", "/a"}, 1, api.OK)
	s.Rules = s.Rules[:1]
	find(t, s, request{"in", "a", "/a"}, 0, api.ErrNone)
	// Rules that are wrong fit nothing, and of those that are alike the first one is told.
	s = api.Snap{Listens: []string{"in"}, Rules: []api.Rule{{Host: "*a", Path: "/", Cluster: 4}, {Host: "*", Path: "a", Cluster: 5}, {Host: "*", Path: "/", Cluster: 6}, {Host: "*", Path: "/", Cluster: 7}}}
	find(t, s, request{"in", "a", "/"}, 6, api.OK)
	many := make([]string, 1<<16)
	many[1<<15] = "in"
	s = api.Snap{Listens: many, Rules: []api.Rule{{Listen: 1 << 15, Host: "*", Path: "/", Cluster: 1 << 15}}}
	find(t, s, request{"in", "a", "/"}, 1<<15, api.OK)
}

// again is P7.4 of c, which passes: what is built of it is a snapshot, its configuration is c, and what is built of that is the same once more, with what is found in it.
func again(t *testing.T, c api.Config) {
	t.Helper()
	s := built(t, c, made(c))
	shown(t, s, c, true)
	more := built(t, Config(s), s)
	shown(t, more, c, true)
	for _, q := range asks(s) {
		n, e := Find(s, q.listen, q.host, q.path)
		want, wantE := sought(s, q)
		find(t, s, q, want, wantE)
		find(t, more, q, n, e)
		if e == api.OK && (n < 0 || n >= len(c.Clusters)) || e != api.OK && n != 0 {
			t.Errorf("P7.4: %+v goes to %d, %d, of %d", q, n, e, len(c.Clusters))
		}
	}
}

// TestAgain is P7.4 of configurations of all sizes that may be.
func TestAgain(t *testing.T) {
	for _, c := range sizes() {
		again(t, c)
	}
	again(t, Config(served(t)))
}

// copiedConfig is c in memory of its own.
func copiedConfig(c api.Config) api.Config {
	c.Listens, c.Routes, c.Clusters = slices.Clone(c.Listens), slices.Clone(c.Routes), slices.Clone(c.Clusters)
	for i := range c.Clusters {
		c.Clusters[i].Health = slices.Clone(c.Clusters[i].Health)
	}
	return c
}

// spoil writes over all that clusters say.
func spoil(l []api.Cluster) {
	for i := range l {
		for k := range l[i].Health {
			l[i].Health[k] = !l[i].Health[k]
		}
		l[i] = api.Cluster{Name: "spoilt"}
	}
}

// TestStays is R2: what is handed in stays as it is, also behind the ends of its lists, and what is told hangs on nothing else.
func TestStays(t *testing.T) {
	long := full()
	long.Listens = append(long.Listens, "more", "")
	long.Routes = append(long.Routes, long.Routes[0], api.Route{})
	long.Clusters = append(long.Clusters, long.Clusters[0], api.Cluster{})
	was := copiedConfig(long)
	cut := long
	cut.Listens, cut.Routes, cut.Clusters = long.Listens[:4], long.Routes[:8], long.Clusters[:4]
	for range 2 {
		s := built(t, cut, made(full()))
		whole := made(copiedConfig(full()))
		shown(t, s, full(), true)
		for _, q := range asks(s) {
			n, e := sought(s, q)
			find(t, s, q, n, e)
		}
		if !reflect.DeepEqual(long, was) {
			t.Errorf("R2: %s became %s", short(was), short(long))
		}
		if !sameSnap(s, whole) {
			t.Errorf("R2: %s became %s", short(whole), short(s))
		}
	}
}

// TestOwn is of who writes over what was handed in, against R2's rule: a snapshot, or a configuration, that is told ahead of that stays as it is.
func TestOwn(t *testing.T) {
	c := full()
	// One list of two clusters becomes two.
	c.Clusters[1].Health = c.Clusters[0].Health
	want := copiedConfig(c)
	s := built(t, c, made(want))
	clear(c.Listens)
	clear(c.Routes)
	spoil(c.Clusters)
	shown(t, s, want, true)
	told := Config(s)
	clear(s.Listens)
	clear(s.Rules)
	spoil(s.Clusters)
	if !sameConfig(told, want) {
		t.Errorf("%s became %s", short(want), short(told))
	}
}
