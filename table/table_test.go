package table_test

import (
	"math"
	"math/rand"
	"slices"
	"strconv"
	"strings"
	"testing"

	"satchel/api"
	"satchel/graph"
	"satchel/table"
)

func number(n int64) api.Value { return api.Value{Kind: api.KindInt, Num: n} }

func text(s string) api.Value { return api.Value{Kind: api.KindText, Text: s} }

func prop(key string, v api.Value) api.Prop { return api.Prop{Key: key, Val: v} }

// wantTexts asks for the texts of a valid graph, and whether they are read.
func wantTexts(t *testing.T, g api.Graph) {
	t.Helper()
	nodes, rels := write(g).texts()
	if a, b, e := table.Print(g); e != api.OK || a != nodes || b != rels {
		t.Fatalf("Print = %.300q, %.300q, %v, want %.300q, %.300q", a, b, e, nodes, rels)
	}
	wantGraph(t, nodes, rels, g)
}

// wantGraph reads two texts that are those of a graph.
func wantGraph(t *testing.T, nodes, rels string, g api.Graph) {
	t.Helper()
	if h, e := table.Parse(nodes, rels); e != api.OK || !graph.Same(h, g) {
		t.Fatalf("Parse(%.300q, %.300q) = %+v, %v, want %+v", nodes, rels, h, e, g)
	}
}

// wantRead compares Parse with the model.
func wantRead(t *testing.T, nodes, rels string) api.Errno {
	t.Helper()
	want, wrong := read(nodes, rels)
	g, e := table.Parse(nodes, rels)
	if e != wrong || !graph.Same(g, want) {
		t.Fatalf("Parse(%.300q, %.300q) = %+v, %v, want %+v, %v", nodes, rels, g, e, want, wrong)
	}
	return e
}

// example is the document's first one.
func example() api.Graph {
	return api.Graph{
		Nodes: []api.Node{{Id: 0, Labels: []string{"A"}, Props: []api.Prop{prop("k", number(1))}}, {Id: 2, Labels: []string{"A", "B"}}},
		Rels:  []api.Rel{{Id: 5, Type: "T", From: 2, To: 0}},
	}
}

// P23.1, P23.2
func TestExamples(t *testing.T) {
	const nodes, rels = ":ID,:LABEL,k\r\n0,A,i:1\r\n2,A;B,\r\n", ":ID,:START,:END,:TYPE\r\n5,2,0,T\r\n"
	if a, b, e := table.Print(example()); e != api.OK || a != nodes || b != rels {
		t.Errorf("Print = %q, %q, %v", a, b, e)
	}
	const noNodes, noRels = ":ID,:LABEL\r\n", ":ID,:START,:END,:TYPE\r\n"
	if a, b, e := table.Print(api.Graph{}); e != api.OK || a != noNodes || b != noRels {
		t.Errorf("Print of the empty graph = %q, %q, %v", a, b, e)
	}
	wantTexts(t, example())
	wantTexts(t, api.Graph{})
	wantTexts(t, api.Graph{Nodes: []api.Node{{Id: 1023}}})
}

// P23.1: the columns of each text are the keys of its own, in the order of names, and what must be quoted is.
func TestColumns(t *testing.T) {
	g := api.Graph{
		Nodes: []api.Node{
			{Id: 1, Labels: []string{"L"}, Props: []api.Prop{prop("B", number(-7)), prop("_", text("a,b")), prop("ab", text(`say "x"`))}},
			{Id: 10, Props: []api.Prop{prop("a", text("")), prop("ab", text("line\r\nbreak"))}},
		},
		Rels: []api.Rel{
			{Id: 0, Type: "T", From: 10, To: 10, Props: []api.Prop{prop("b", api.Value{Kind: api.KindTexts, Texts: []string{";", ","}})}},
			{Id: 2047, Type: "U", From: 1, To: 10, Props: []api.Prop{prop("Z", api.Value{Kind: api.KindBools, Nums: []int64{1, 0}}), prop("a", api.Value{Kind: api.KindFloat})}},
		},
	}
	const nodes = ":ID,:LABEL,B,_,a,ab\r\n1,L,i:-7,\"s:a,b\",,\"s:say \"\"x\"\"\"\r\n10,,,,s:,\"s:line\r\nbreak\"\r\n"
	const rels = ":ID,:START,:END,:TYPE,Z,a,b\r\n0,10,10,T,,,\"s[]:\\;;,;\"\r\n2047,1,10,U,b[]:true;false;,f:0x0,\r\n"
	if a, b, e := table.Print(g); e != api.OK || a != nodes || b != rels {
		t.Errorf("Print = %q, %q, %v", a, b, e)
	}
	wantTexts(t, g)
}

// P23.1
func TestPrintOfWrongGraphs(t *testing.T) {
	two := []api.Node{{Id: 0}, {Id: 1}}
	loop := api.Rel{Id: 3, Type: "T"}
	for i, c := range []struct {
		g    api.Graph
		want api.Errno
	}{
		{api.Graph{Nodes: []api.Node{{Id: -1}}}, api.ErrNodeId},
		{api.Graph{Nodes: []api.Node{{Id: 1024}}}, api.ErrNodeId},
		{api.Graph{Nodes: []api.Node{{Id: math.MinInt}}}, api.ErrNodeId},
		{api.Graph{Nodes: []api.Node{{Id: 1}, {Id: 0}}}, api.ErrOrder},
		{api.Graph{Nodes: []api.Node{{Labels: strings.Split("A B C D E F G H I", " ")}}}, api.ErrLabels},
		{api.Graph{Nodes: []api.Node{{Labels: []string{"A;B"}}}}, api.ErrName},
		{api.Graph{Nodes: []api.Node{{Labels: []string{"B", "A"}}}}, api.ErrOrder},
		{api.Graph{Nodes: []api.Node{{Labels: []string{"A", "A"}}}}, api.ErrOrder},
		{api.Graph{Nodes: []api.Node{{Props: make([]api.Prop, 17)}}}, api.ErrProps},
		{api.Graph{Nodes: []api.Node{{Props: []api.Prop{prop("b", number(1)), prop("a", number(1))}}}}, api.ErrOrder},
		{api.Graph{Nodes: []api.Node{{Props: []api.Prop{prop("b", api.Value{Kind: 1, Num: 2})}}}}, api.ErrBool},
		{api.Graph{Nodes: two, Rels: []api.Rel{{Id: 2048, Type: "T"}}}, api.ErrRelId},
		{api.Graph{Nodes: two, Rels: []api.Rel{loop, loop}}, api.ErrOrder},
		{api.Graph{Nodes: two, Rels: []api.Rel{{Id: 3}}}, api.ErrName},
		{api.Graph{Nodes: two, Rels: []api.Rel{{Id: 3, Type: "T", To: 2}}}, api.ErrEnd},
		{api.Graph{Nodes: two, Rels: []api.Rel{{Id: 3, Type: "T", Props: []api.Prop{prop("b", api.Value{})}}}}, api.ErrKind},
		{heavy(api.MaxWeight + 1), api.ErrWeight},
	} {
		if a, b, e := table.Print(c.g); e != c.want || a != "" || b != "" {
			t.Errorf("%d: Print = %.60q, %.60q, %v, want %v", i, a, b, e, c.want)
		}
	}
	wantTexts(t, heavy(api.MaxWeight))
}

// heavy is a graph with a weight, from 20000 on, in texts of bytes that are doubled where they are written.
func heavy(weight int) api.Graph {
	n := api.Node{Id: 7}
	for i := range 16 {
		v := api.Value{Kind: api.KindTexts}
		for size := weight/16 - 2; size > 0; size -= 1002 {
			v.Texts = append(v.Texts, strings.Repeat(`"`, max(min(size, 1002)-2, 0)))
		}
		n.Props = append(n.Props, prop("k"+string(rune('A'+i)), v))
	}
	g := api.Graph{Nodes: []api.Node{n}}
	last := n.Props[15].Val.Texts
	last[len(last)-1] += strings.Repeat(";", weight-graph.Weight(g))
	return g
}

var (
	someNames = []string{"A", "B", "a", "B2", "_", "Z9", "AB", "ABC", "b", strings.Repeat("L", 40)}
	someTexts = []string{"", "a", ";", "\"", ",", "\r\n", "\\", "i:1", "caf\xc3\xa9", "\x00\xff", strings.Repeat("x", 1000)}
	someNums  = []int64{0, 1, -1, 258, math.MinInt64, math.MaxInt64}
)

// some gives up to n different names, in order.
func some(rng *rand.Rand, n int) []string {
	var chosen []string
	for _, i := range rng.Perm(len(someNames))[:rng.Intn(n+1)] {
		chosen = append(chosen, someNames[i])
	}
	slices.Sort(chosen)
	return chosen
}

func randomValue(rng *rand.Rand) api.Value {
	num := someNums[rng.Intn(len(someNums))]
	s := someTexts[rng.Intn(len(someTexts))]
	switch 1 + rng.Intn(8) {
	case api.KindBool:
		return api.Value{Kind: api.KindBool, Num: num & 1}
	case api.KindInt:
		return number(num)
	case api.KindFloat:
		return api.Value{Kind: api.KindFloat, Num: int64(math.Float64bits(float64(num)))}
	case api.KindText:
		return text(s)
	case api.KindBools:
		return api.Value{Kind: api.KindBools, Nums: make([]int64, rng.Intn(4))}
	case api.KindInts:
		return api.Value{Kind: api.KindInts, Nums: []int64{num, 5}}
	case api.KindFloats:
		return api.Value{Kind: api.KindFloats, Nums: []int64{num & 0xff, 0x7ff8000000000000}}
	}
	return api.Value{Kind: api.KindTexts, Texts: slices.Repeat([]string{s}, rng.Intn(3))}
}

func randomProps(rng *rand.Rand) []api.Prop {
	var props []api.Prop
	for _, key := range some(rng, 4) {
		props = append(props, prop(key, randomValue(rng)))
	}
	return props
}

func randomGraph(rng *rand.Rand) api.Graph {
	var g api.Graph
	id := rng.Intn(3)
	for range 1 + rng.Intn(5) {
		g.Nodes = append(g.Nodes, api.Node{Id: id, Labels: some(rng, 8), Props: randomProps(rng)})
		id += 1 + rng.Intn(200)
	}
	id = rng.Intn(600)
	for range rng.Intn(6) {
		from, to := g.Nodes[rng.Intn(len(g.Nodes))].Id, g.Nodes[rng.Intn(len(g.Nodes))].Id
		g.Rels = append(g.Rels, api.Rel{Id: id, Type: someNames[rng.Intn(10)], From: from, To: to, Props: randomProps(rng)})
		id += 1 + rng.Intn(200)
	}
	return g
}

// shuffle puts rows, columns and labels into any order, and columns without values between them.
func shuffle(rng *rand.Rand, rows [][]string, fixed int) [][]string {
	for range rng.Intn(3) {
		rows[0] = append(rows[0], "more"+strconv.Itoa(len(rows[0])))
		for i := range rows[1:] {
			rows[1+i] = append(rows[1+i], "")
		}
	}
	order := rng.Perm(len(rows[0]) - fixed)
	for i, row := range rows {
		row = slices.Clone(row)
		for k, from := range order {
			row[fixed+k] = rows[i][fixed+from]
		}
		rows[i] = row
	}
	rng.Shuffle(len(rows)-1, func(i, k int) { rows[1+i], rows[1+k] = rows[1+k], rows[1+i] })
	return rows
}

func shuffleLabels(rng *rand.Rand, rows [][]string) {
	for _, row := range rows[1:] {
		labels := strings.Split(row[1], ";")
		rng.Shuffle(len(labels), func(i, k int) { labels[i], labels[k] = labels[k], labels[i] })
		row[1] = strings.Join(labels, ";")
	}
}

// loosely writes rows with some more quotation marks than there must be, and perhaps without the last line break.
func loosely(rng *rand.Rand, rows [][]string) string {
	var lines []string
	for _, row := range rows {
		var fields []string
		for _, field := range row {
			if strings.ContainsAny(field, "\",\r\n") || rng.Intn(3) == 0 {
				field = "\"" + strings.ReplaceAll(field, "\"", "\"\"") + "\""
			}
			fields = append(fields, field)
		}
		lines = append(lines, strings.Join(fields, ","))
	}
	return strings.Join(lines, "\r\n") + strings.Repeat("\r\n", rng.Intn(2))
}

// P23.1, P23.2: what is written is read, in any order and with any quotation marks.
func TestRandomGraphs(t *testing.T) {
	rng := rand.New(rand.NewSource(1))
	for range 4000 {
		g := randomGraph(rng)
		wantTexts(t, g)
		s := write(g)
		shuffleLabels(rng, s.nodes)
		nodes := loosely(rng, shuffle(rng, s.nodes, 2))
		rels := loosely(rng, shuffle(rng, s.rels, 4))
		wantGraph(t, nodes, rels, g)
	}
}

// P23.2: texts of which some bytes or fields were changed.
func TestChangedTexts(t *testing.T) {
	rng := rand.New(rand.NewSource(2))
	errors := map[api.Errno]int{}
	odd := []string{"", "0", "1", "1024", "2048", "-1", "00", "A", "A;A", "A;", ":ID", ":TYPE", "i:1", "i:x", "i:9999999999999999999", "f:1", "s:a", "s[]:a", "9", "\"", "\r"}
	for range 40000 {
		s := write(randomGraph(rng))
		rows := [][][]string{s.nodes, s.rels}[rng.Intn(2)]
		for range rng.Intn(3) {
			row := rows[rng.Intn(len(rows))]
			row[rng.Intn(len(row))] = odd[rng.Intn(len(odd))]
		}
		if i := rng.Intn(len(rows)); rng.Intn(8) == 0 {
			rows[i] = rows[i][:1+rng.Intn(len(rows[i]))]
		}
		nodes, rels := s.texts()
		if b := []byte(nodes); rng.Intn(4) == 0 {
			b[rng.Intn(len(b))] = ",;\"\r\n:01ATi"[rng.Intn(11)]
			nodes = string(b)
		}
		errors[wantRead(t, nodes, rels)]++
	}
	for _, e := range []api.Errno{api.OK, api.ErrQuote, api.ErrBreak, api.ErrHeader, api.ErrColumns, api.ErrNodeId, api.ErrRelId, api.ErrTwice, api.ErrName, api.ErrEnd, api.ErrCell, api.ErrDigit, api.ErrRange, api.ErrFloat} {
		if errors[e] == 0 {
			t.Errorf("no text with %v: %v", e, errors)
		}
	}
}

// full is a graph with as much of everything as there may be.
func full() api.Graph {
	name := func(sort string, i int) string { return sort + strings.Repeat("x", 36) + strconv.Itoa(100+i%200) }
	var g api.Graph
	for id := range api.MaxNodes {
		n := api.Node{Id: id}
		for i := range api.MaxLabels {
			n.Labels = append(n.Labels, name("L", id*8+i))
		}
		for i := range 7 {
			n.Props = append(n.Props, prop(name("k", id*8+i), number(int64(id))))
		}
		g.Nodes = append(g.Nodes, n)
	}
	for i := range api.MaxProps - 7 {
		g.Nodes[0].Props = append(g.Nodes[0].Props, prop(name("k", 7+i), number(math.MinInt64)))
	}
	for id := range api.MaxRels {
		r := api.Rel{Id: id, Type: name("T", id), From: id % 1024, To: 1023 - id%1024}
		for i := range 9 {
			r.Props = append(r.Props, prop(name("k", (id*11+i)%191), number(0)))
		}
		g.Rels = append(g.Rels, r)
	}
	return graph.Canon(g)
}

// P23.1, P23.2: the greatest numbers of everything.
func TestFullGraph(t *testing.T) {
	g := full()
	if e, at := graph.Check(g); e != api.OK {
		t.Fatalf("the graph isn't valid: %v at %d", e, at)
	}
	wantTexts(t, g)
}
