package cypher_test

import (
	"math"
	"math/rand"
	"slices"
	"strconv"
	"strings"
	"testing"

	"satchel/api"
	"satchel/cypher"
	"satchel/graph"
	"satchel/value"
)

func integer(n int64) api.Value { return api.Value{Kind: api.KindInt, Num: n} }

func text(s string) api.Value { return api.Value{Kind: api.KindText, Text: s} }

func nums(kind int, n ...int64) api.Value { return api.Value{Kind: kind, Nums: n} }

func texts(s ...string) api.Value { return api.Value{Kind: api.KindTexts, Texts: s} }

func prop(key string, v api.Value) api.Prop { return api.Prop{Key: key, Val: v} }

// wantGraph reads a script that makes a graph.
func wantGraph(t *testing.T, script string, g api.Graph) {
	t.Helper()
	if h, e := cypher.Parse(script); e != api.OK || !graph.Same(h, g) {
		t.Fatalf("Parse(%.300q) = %+v, %v, want %+v", script, h, e, g)
	}
}

// wantScript asks for the script of a valid graph, and whether it is read.
func wantScript(t *testing.T, g api.Graph) {
	t.Helper()
	want := write(g)
	if script, e := cypher.Print(g); e != api.OK || script != want {
		t.Fatalf("Print = %.300q, %v, want %.300q", script, e, want)
	}
	wantGraph(t, want, g)
}

// wantRead compares Parse with the model.
func wantRead(t *testing.T, script string) api.Errno {
	t.Helper()
	want, wrong := read(script)
	g, e := cypher.Parse(script)
	if e != wrong || !graph.Same(g, want) {
		t.Fatalf("Parse(%.300q) = %+v, %v, want %+v, %v", script, g, e, want, wrong)
	}
	return e
}

// wantLiteral asks for the literal of a valid value, and whether it is read.
func wantLiteral(t *testing.T, v api.Value) {
	t.Helper()
	want := plain().literal(v)
	if s, e := cypher.Literal(v); e != api.OK || s != want {
		t.Fatalf("Literal(%+v) = %.200q, %v, want %.200q", v, s, e, want)
	}
	wantGraph(t, "CREATE (n7 {k: "+want+"});", api.Graph{Nodes: []api.Node{{Id: 7, Props: []api.Prop{prop("k", v)}}}})
}

// P25.1
func TestLiterals(t *testing.T) {
	for want, v := range map[string]api.Value{
		"true":                            {Kind: api.KindBool, Num: 1},
		"false":                           {Kind: api.KindBool},
		"0":                               integer(0),
		"-7":                              integer(-7),
		"-9223372036854775808":            integer(math.MinInt64),
		"9223372036854775807":             integer(math.MaxInt64),
		"0x1.8p0":                         {Kind: api.KindFloat, Num: 0x3ff8000000000000},
		"0xnan":                           {Kind: api.KindFloat, Num: 0x7ff8000000000000},
		"-0x0":                            {Kind: api.KindFloat, Num: math.MinInt64},
		"0x1m1074":                        {Kind: api.KindFloat, Num: 1},
		"''":                              text(""),
		`'it\'s'`:                         text("it's"),
		`'\x00\n\xff"'`:                   text("\x00\n\xff\""),
		"[:bool]":                         nums(api.KindBools),
		"[:int]":                          nums(api.KindInts),
		"[:float]":                        nums(api.KindFloats),
		"[:text]":                         texts(),
		"[:bool true]":                    nums(api.KindBools, 1),
		"[:bool false, true, false]":      nums(api.KindBools, 0, 1, 0),
		"[:int 1, 2]":                     nums(api.KindInts, 1, 2),
		"[:int 1, 0, -1]":                 nums(api.KindInts, 1, 0, -1),
		"[:float 0x0]":                    nums(api.KindFloats, 0),
		"[:float -0xinf, 0x1p0, 0x1p0]":   nums(api.KindFloats, -0x10000000000000, 0x3ff0000000000000, 0x3ff0000000000000),
		"[:text '']":                      texts(""),
		`[:text 'a, b', '', '\'', '\\]']`: texts("a, b", "", "'", `\]`),
	} {
		if s, e := cypher.Literal(v); e != api.OK || s != want {
			t.Errorf("Literal(%+v) = %q, %v, want %q", v, s, e, want)
		}
		wantLiteral(t, v)
	}
}

// P25.1: each byte in texts.
func TestEachByte(t *testing.T) {
	for c := range 256 {
		s := string([]byte{byte(c)})
		for _, s := range []string{s, s + "a", "a" + s, s + s, `\` + s} {
			wantLiteral(t, text(s))
			wantLiteral(t, texts("", s, "b", s))
		}
	}
}

// P25.1: the limits and the errors of layer 4.
func TestLimitsOfLiterals(t *testing.T) {
	long := strings.Repeat("\xff", 1000)
	for _, v := range []api.Value{text(long), texts(slices.Repeat([]string{long}, 40)...), nums(api.KindBools, make([]int64, 40)...), nums(api.KindInts, slices.Repeat([]int64{math.MinInt64}, 40)...), nums(api.KindFloats, make([]int64, 40)...)} {
		wantLiteral(t, v)
	}
	for i, c := range []struct {
		v api.Value
		e api.Errno
	}{
		{api.Value{}, api.ErrKind},
		{api.Value{Kind: 9}, api.ErrKind},
		{api.Value{Kind: -1}, api.ErrKind},
		{api.Value{Kind: math.MaxInt}, api.ErrKind},
		{api.Value{Kind: math.MinInt, Text: "a"}, api.ErrKind},
		{api.Value{Kind: api.KindBool, Num: 2}, api.ErrBool},
		{api.Value{Kind: api.KindBool, Num: -1}, api.ErrBool},
		{api.Value{Kind: api.KindBool, Num: 2, Text: "a"}, api.ErrField},
		{api.Value{Kind: api.KindText, Text: "a", Num: 1}, api.ErrField},
		{api.Value{Kind: api.KindInts, Texts: []string{"a"}}, api.ErrField},
		{api.Value{Kind: api.KindFloat, Num: 0x7ff0000000000001}, api.ErrNaN},
		{nums(api.KindFloats, 0, -1), api.ErrNaN},
		{nums(api.KindBools, 0, 1, 2), api.ErrBool},
		{nums(api.KindInts, make([]int64, 41)...), api.ErrList},
		{texts(make([]string, 41)...), api.ErrList},
		{text(long + "x"), api.ErrText},
		{texts("", long+"x"), api.ErrText},
	} {
		if s, e := cypher.Literal(c.v); e != c.e || s != "" {
			t.Errorf("%d: Literal = %.60q, %v, want %v", i, s, e, c.e)
		}
	}
}

// P25.2: the document's examples, and the edges of its words.
func TestPrint(t *testing.T) {
	one, x := prop("k", integer(1)), prop("z", text("x"))
	for _, c := range []struct {
		want string
		g    api.Graph
	}{
		{"", api.Graph{}},
		{"CREATE (n0);\n", api.Graph{Nodes: []api.Node{{}}}},
		{"CREATE (n1);\nCREATE (n1023);\n", api.Graph{Nodes: []api.Node{{Id: 1}, {Id: 1023}}}},
		{"CREATE (n0:A:B {k: 1, z: 'x'});\n", api.Graph{Nodes: []api.Node{{Labels: []string{"A", "B"}, Props: []api.Prop{one, x}}}}},
		{"CREATE (n0:A);\n", api.Graph{Nodes: []api.Node{{Labels: []string{"A"}}}}},
		{"CREATE (n0 {k: 1});\n", api.Graph{Nodes: []api.Node{{Props: []api.Prop{one}}}}},
		{"CREATE (n0:CREATE:n0:true {int: [:int], true: true});\n", api.Graph{Nodes: []api.Node{{Labels: []string{"CREATE", "n0", "true"}, Props: []api.Prop{prop("int", nums(api.KindInts)), prop("true", api.Value{Kind: 1, Num: 1})}}}}},
		{"CREATE (n0);\nCREATE (n2);\nCREATE (n0)-[r5:T {k: true}]->(n2);\n", api.Graph{Nodes: []api.Node{{}, {Id: 2}}, Rels: []api.Rel{{Id: 5, Type: "T", To: 2, Props: []api.Prop{prop("k", api.Value{Kind: 1, Num: 1})}}}}},
		{"CREATE (n0);\nCREATE (n2);\nCREATE (n2)-[r0:T]->(n0);\nCREATE (n2)-[r2047:S {k: 1, z: 'x'}]->(n2);\n", api.Graph{Nodes: []api.Node{{}, {Id: 2}}, Rels: []api.Rel{{Type: "T", From: 2}, {Id: 2047, Type: "S", From: 2, To: 2, Props: []api.Prop{one, x}}}}},
	} {
		if script, e := cypher.Print(c.g); e != api.OK || script != c.want {
			t.Errorf("Print(%+v) = %q, %v, want %q", c.g, script, e, c.want)
		}
		wantScript(t, c.g)
	}
}

// heavy is a graph with a weight, from 20000 on, in texts of bytes that are four times as long where they are written.
func heavy(weight int) api.Graph {
	n := api.Node{Id: 7}
	for i := range 16 {
		v := api.Value{Kind: api.KindTexts}
		for size := weight/16 - 2; size > 0; size -= 1002 {
			v.Texts = append(v.Texts, strings.Repeat("\x00", max(min(size, 1002)-2, 0)))
		}
		n.Props = append(n.Props, prop("k"+string(rune('A'+i)), v))
	}
	g := api.Graph{Nodes: []api.Node{n}}
	last := n.Props[15].Val.Texts
	last[len(last)-1] += strings.Repeat("'", weight-graph.Weight(g))
	return g
}

// P25.2
func TestPrintOfWrongGraphs(t *testing.T) {
	two := []api.Node{{Id: 0}, {Id: 1}}
	loop := api.Rel{Id: 3, Type: "T"}
	for i, c := range []struct {
		g    api.Graph
		want api.Errno
	}{
		{api.Graph{Nodes: []api.Node{{Id: -1}}}, api.ErrNodeId},
		{api.Graph{Nodes: []api.Node{{Id: 1024}}}, api.ErrNodeId},
		{api.Graph{Nodes: []api.Node{{Id: math.MinInt}}}, api.ErrNodeId},
		{api.Graph{Nodes: []api.Node{{Id: 1}, {Id: 0}}}, api.ErrOrder},
		{api.Graph{Nodes: []api.Node{{Labels: strings.Split("A B C D E F G H I", " ")}}}, api.ErrLabels},
		{api.Graph{Nodes: []api.Node{{Labels: []string{"A:B"}}}}, api.ErrName},
		{api.Graph{Nodes: []api.Node{{Labels: []string{"B", "A"}}}}, api.ErrOrder},
		{api.Graph{Nodes: []api.Node{{Props: make([]api.Prop, 17)}}}, api.ErrProps},
		{api.Graph{Nodes: []api.Node{{Props: []api.Prop{prop("b", integer(1)), prop("a", integer(1))}}}}, api.ErrOrder},
		{api.Graph{Nodes: []api.Node{{Props: []api.Prop{prop("b", api.Value{Kind: 1, Num: 2})}}}}, api.ErrBool},
		{api.Graph{Nodes: two, Rels: []api.Rel{{Id: 2048, Type: "T"}}}, api.ErrRelId},
		{api.Graph{Nodes: two, Rels: []api.Rel{loop, loop}}, api.ErrOrder},
		{api.Graph{Nodes: two, Rels: []api.Rel{{Id: 3}}}, api.ErrName},
		{api.Graph{Nodes: two, Rels: []api.Rel{{Id: 3, Type: "T", To: 2}}}, api.ErrEnd},
		{api.Graph{Nodes: two, Rels: []api.Rel{{Id: 3, Type: "T", Props: []api.Prop{prop("b", api.Value{})}}}}, api.ErrKind},
		{heavy(api.MaxWeight + 1), api.ErrWeight},
	} {
		if script, e := cypher.Print(c.g); e != c.want || script != "" {
			t.Errorf("%d: Print = %.60q, %v, want %v", i, script, e, c.want)
		}
	}
	wantScript(t, heavy(api.MaxWeight))
}

var (
	someNames = []string{"A", "B", "a", "B2", "_", "Z9", "CREATE", "true", "n0", "int", strings.Repeat("L", 40)}
	someTexts = []string{"", "a", "'", `\`, ",", "\r\n", `\x41`, "//", "caf\xc3\xa9", "\x00\xff", "CREATE (n0);", strings.Repeat("x", 1000)}
	someNums  = []int64{0, 1, -1, 258, math.MinInt64, math.MaxInt64}
)

// some gives up to n different names, in order.
func some(rng *rand.Rand, n int) []string {
	var chosen []string
	for _, i := range rng.Perm(len(someNames))[:rng.Intn(n+1)] {
		chosen = append(chosen, someNames[i])
	}
	slices.Sort(chosen)
	return chosen
}

func randomValue(rng *rand.Rand) api.Value {
	num := someNums[rng.Intn(len(someNums))]
	s := someTexts[rng.Intn(len(someTexts))]
	switch 1 + rng.Intn(8) {
	case api.KindBool:
		return api.Value{Kind: api.KindBool, Num: num & 1}
	case api.KindInt:
		return integer(num)
	case api.KindFloat:
		return api.Value{Kind: api.KindFloat, Num: int64(math.Float64bits(float64(num)))}
	case api.KindText:
		return text(s)
	case api.KindBools:
		return nums(api.KindBools, []int64{1, 0, num & 1}[:rng.Intn(4)]...)
	case api.KindInts:
		return nums(api.KindInts, num, 5)
	case api.KindFloats:
		return nums(api.KindFloats, num&0xff, 0x7ff8000000000000)
	}
	return texts(slices.Repeat([]string{s}, rng.Intn(3))...)
}

func randomProps(rng *rand.Rand) []api.Prop {
	var props []api.Prop
	for _, key := range some(rng, 4) {
		props = append(props, prop(key, randomValue(rng)))
	}
	return props
}

func randomGraph(rng *rand.Rand) api.Graph {
	var g api.Graph
	id := rng.Intn(3)
	for range 1 + rng.Intn(5) {
		g.Nodes = append(g.Nodes, api.Node{Id: id, Labels: some(rng, 8), Props: randomProps(rng)})
		id += 1 + rng.Intn(200)
	}
	id = rng.Intn(600)
	for range rng.Intn(6) {
		from, to := g.Nodes[rng.Intn(len(g.Nodes))].Id, g.Nodes[rng.Intn(len(g.Nodes))].Id
		g.Rels = append(g.Rels, api.Rel{Id: id, Type: someNames[rng.Intn(10)], From: from, To: to, Props: randomProps(rng)})
		id += 1 + rng.Intn(200)
	}
	return g
}

// loose is a style with blanks and comments anywhere, several patterns in a command, empty maps, and more escapes than there must be.
func loose(rng *rand.Rand) style {
	gap := func() string {
		return []string{"", "", "", " ", "\n", "\t\r\n", "// ' \\ #\n", " //\n"}[rng.Intn(8)]
	}
	return style{
		gap:   gap,
		space: gap,
		quote: func(s string) string {
			var token strings.Builder
			for i := range len(s) {
				if rng.Intn(4) == 0 {
					token.WriteString(`\x` + strconv.FormatInt(int64(s[i])+256, 16)[1:])
				} else {
					q := plain().quote(s[i : i+1])
					token.WriteString(q[1 : len(q)-1])
				}
			}
			return "'" + token.String() + "'"
		},
		join:  func() string { return gap() + []string{",", ";CREATE", "; CREATE "}[rng.Intn(3)] + gap() },
		empty: func(props string) string { return strings.Repeat(props, rng.Intn(2)) },
	}
}

// shuffle puts a graph's lists into any order.
func shuffle(rng *rand.Rand, g api.Graph) api.Graph {
	g = graph.Canon(g)
	anyOrder := func(props []api.Prop) {
		rng.Shuffle(len(props), func(i, k int) { props[i], props[k] = props[k], props[i] })
	}
	for _, n := range g.Nodes {
		rng.Shuffle(len(n.Labels), func(i, k int) { n.Labels[i], n.Labels[k] = n.Labels[k], n.Labels[i] })
		anyOrder(n.Props)
	}
	for _, r := range g.Rels {
		anyOrder(r.Props)
	}
	rng.Shuffle(len(g.Nodes), func(i, k int) { g.Nodes[i], g.Nodes[k] = g.Nodes[k], g.Nodes[i] })
	rng.Shuffle(len(g.Rels), func(i, k int) { g.Rels[i], g.Rels[k] = g.Rels[k], g.Rels[i] })
	return g
}

// interleave puts the patterns of relationships as far to the front as their ends allow, if so drawn.
func interleave(rng *rand.Rand, s style, g api.Graph) []string {
	var all []string
	created := map[int]bool{}
	rels := slices.Clone(g.Rels)
	ready := func(always bool) {
		rels = slices.DeleteFunc(rels, func(r api.Rel) bool {
			if !created[r.From] || !created[r.To] || !always && rng.Intn(2) == 0 {
				return false
			}
			all = append(all, s.rel(r))
			return true
		})
	}
	for _, n := range g.Nodes {
		all = append(all, s.node(n))
		created[n.Id] = true
		ready(false)
	}
	ready(true)
	return all
}

// P25.1, P25.2, P25.3: what is written is read, in any order and style.
func TestRandomGraphs(t *testing.T) {
	rng := rand.New(rand.NewSource(1))
	for range 4000 {
		g := randomGraph(rng)
		wantScript(t, g)
		s := loose(rng)
		wantGraph(t, s.script(interleave(rng, s, shuffle(rng, g))), g)
	}
}

// P25.3: scripts of which some tokens or bytes were changed.
func TestChangedScripts(t *testing.T) {
	rng := rand.New(rand.NewSource(2))
	found := map[api.Errno]int{}
	odd := []string{"", "(", ")", "[", "]", "{", "}", ":", ",", ";", "-", "->", "CREATE", "n0", "n1", "n1024", "r0", "r2048", "x", "00", "true", "int", "1", "'a'", "0x0", "#"}
	for range 30000 {
		s := plain()
		s.gap = func() string { return " " }
		words := strings.Split(s.script(s.patterns(randomGraph(rng))), " ")
		for range rng.Intn(9) {
			i := rng.Intn(len(words))
			other := slices.Concat(words, odd)[rng.Intn(len(words)+len(odd))]
			switch alike := words[i] != "" && strings.HasPrefix(other, words[i][:1]); {
			case alike || rng.Intn(20) == 0:
				words[i] = other
			case rng.Intn(20) == 0:
				words = slices.Insert(words, i, other)
			}
		}
		found[wantRead(t, strings.Join(words, " "))]++
	}
	for _, e := range []api.Errno{api.OK, api.ErrSyntax, api.ErrLetter, api.ErrDigit, api.ErrNodeId, api.ErrRelId, api.ErrTwice, api.ErrEnd} {
		if found[e] == 0 {
			t.Errorf("no script with %v: %v", e, found)
		}
	}
}

// full is a graph with as much of everything as there may be.
func full() api.Graph {
	name := func(sort string, i int) string { return sort + strings.Repeat("x", 36) + strconv.Itoa(100+i%200) }
	var g api.Graph
	for id := range api.MaxNodes {
		n := api.Node{Id: id}
		for i := range api.MaxLabels {
			n.Labels = append(n.Labels, name("L", id*8+i))
		}
		for i := range 7 {
			n.Props = append(n.Props, prop(name("k", id*8+i), integer(int64(id))))
		}
		g.Nodes = append(g.Nodes, n)
	}
	for i := range api.MaxProps - 7 {
		g.Nodes[0].Props = append(g.Nodes[0].Props, prop(name("k", 7+i), integer(math.MinInt64)))
	}
	for id := range api.MaxRels {
		r := api.Rel{Id: id, Type: name("T", id), From: id % 1024, To: 1023 - id%1024}
		for i := range 9 {
			r.Props = append(r.Props, prop(name("k", (id*11+i)%191), integer(0)))
		}
		g.Rels = append(g.Rels, r)
	}
	return graph.Canon(g)
}

// P25.2, P25.3: the greatest numbers of everything.
func TestFullGraph(t *testing.T) {
	g := full()
	if e, at := graph.Check(g); e != api.OK {
		t.Fatalf("the graph isn't valid: %v at %d", e, at)
	}
	wantScript(t, g)
}

// P25.1: what is written is a valid value's, and the same value is read.
func TestRandomLiterals(t *testing.T) {
	rng := rand.New(rand.NewSource(3))
	for range 5000 {
		v := randomValue(rng)
		if e := value.Check(v); e != api.OK {
			t.Fatalf("%+v isn't valid: %v", v, e)
		}
		wantLiteral(t, v)
	}
}
