package table_test

import (
	"slices"
	"strconv"
	"strings"
	"testing"

	"satchel/api"
	"satchel/csv"
	"satchel/graph"
	"satchel/table"
)

// raw are two texts, which can be changed row by row, and then as texts.
type raw struct {
	sheets
	turns []func(nodes, rels *string)
}

func (r *raw) texts() (string, string) {
	nodes, rels := r.sheets.texts()
	for _, turn := range r.turns {
		turn(&nodes, &rels)
	}
	return nodes, rels
}

// newRaw is a small graph with something of everything, and hardly anything of it in order.
func newRaw() *raw {
	return &raw{sheets: sheets{
		nodes: [][]string{{":ID", ":LABEL", "k", "a", "m"}, {"3", "B;A", "i:1", "s:x", ""}, {"0", "", "", "", ""}, {"1", "C", "b[]:true;", "s[]:a,b;", "f:0x1p0"}},
		rels:  [][]string{{":ID", ":START", ":END", ":TYPE", "w", "k"}, {"5", "3", "0", "T", "", ""}, {"2", "1", "1", "S", "f:0x0", "i:2"}, {"2047", "0", "3", "T", "s:", ""}},
	}}
}

func sample() api.Graph {
	return api.Graph{
		Nodes: []api.Node{
			{Id: 0},
			{Id: 1, Labels: []string{"C"}, Props: []api.Prop{prop("a", api.Value{Kind: api.KindTexts, Texts: []string{"a,b"}}), prop("k", api.Value{Kind: api.KindBools, Nums: []int64{1}}), prop("m", api.Value{Kind: api.KindFloat, Num: 0x3ff0000000000000})}},
			{Id: 3, Labels: []string{"A", "B"}, Props: []api.Prop{prop("a", text("x")), prop("k", number(1))}},
		},
		Rels: []api.Rel{
			{Id: 2, Type: "S", From: 1, To: 1, Props: []api.Prop{prop("k", number(2)), prop("w", api.Value{Kind: api.KindFloat})}},
			{Id: 5, Type: "T", From: 3, To: 0},
			{Id: 2047, Type: "T", From: 0, To: 3, Props: []api.Prop{prop("w", text(""))}},
		},
	}
}

// fault is something that is wrong with newRaw.
type fault struct {
	what  string
	place int // where in the order of examination it is
	want  api.Errno
	phase int // when it is put in
	turn  func(*raw)
}

// The phases: what needs rows and fields as they are in newRaw is put in ahead of what changes their number.
const (
	addition = iota
	setting
	reshaping
	removal
)

// The places of faults. Those of a row are behind that of its text's header.
const (
	lengthPlace = iota * 1000
	nodesCsvPlace
	relsCsvPlace
	nodesPlace
	relsPlace
	graphPlace
)

// sheet is one of the two texts.
type sheet struct {
	what  string
	place int
	rows  func(*raw) *[][]string
	fixed int       // fields ahead of those of the keys
	id    api.Errno // of a wrong one
	limit string
}

func nodesSheet() sheet {
	return sheet{"nodes", nodesPlace, func(r *raw) *[][]string { return &r.nodes }, 2, api.ErrNodeId, "1024"}
}

func relsSheet() sheet {
	return sheet{"rels", relsPlace, func(r *raw) *[][]string { return &r.rels }, 4, api.ErrRelId, "2048"}
}

// set is a fault of one field.
func (s sheet) set(row, column int, field string, want api.Errno, behind int) fault {
	return fault{s.what + " " + strconv.Itoa(row) + ": " + strconv.Quote(field[:min(len(field), 60)]), s.place + 100*row + behind, want, setting, func(r *raw) { (*s.rows(r))[row][column] = field }}
}

// turned is a fault of a row.
func (s sheet) turned(what string, row int, want api.Errno, turn func([]string) []string) fault {
	return fault{s.what + " " + strconv.Itoa(row) + ": " + what, s.place + 100*row, want, reshaping, func(r *raw) {
		rows := *s.rows(r)
		rows[row] = turn(rows[row])
	}}
}

// badNames are those that no name may have.
func badNames() []string {
	return []string{"9", "a b", "", ":ID", "a-b", "é", " a", strings.Repeat("a", 41)}
}

func (s sheet) headerFaults() []fault {
	all := []fault{
		{s.what + ": nothing", s.place, api.ErrHeader, removal, func(r *raw) { *s.rows(r) = nil }},
		{s.what + ": no header", s.place, api.ErrHeader, removal, func(r *raw) { *s.rows(r) = (*s.rows(r))[1:] }},
		{s.what + ": an empty row", s.place, api.ErrHeader, removal, func(r *raw) { *s.rows(r) = slices.Insert(*s.rows(r), 0, []string{""}) }},
	}
	for i := range s.fixed {
		for _, field := range []string{"", "ID", ":id", ":ID ", ":TYPES", "k", ":LABEL;"} {
			all = append(all, s.set(0, i, field, api.ErrHeader, 0))
		}
		all = append(all,
			s.turned("a field twice", 0, api.ErrHeader, func(row []string) []string { return slices.Insert(row, i, row[i]) }),
			s.turned("a field less", 0, api.ErrHeader, func(row []string) []string { return slices.Delete(row, i, i+1) }),
			s.turned("fields exchanged", 0, api.ErrHeader, func(row []string) []string {
				row[i], row[i+1] = row[i+1], row[i]
				return row
			}),
		)
	}
	for i := 1; i < s.fixed; i++ {
		all = append(all, s.turned("a short header", 0, api.ErrHeader, func(row []string) []string { return row[:i] }))
	}
	for i := s.fixed; i < s.fixed+2; i++ {
		for _, name := range badNames() {
			all = append(all, s.set(0, i, name, api.ErrHeader, 0))
		}
	}
	return append(all,
		s.turned("a key twice", 0, api.ErrHeader, func(row []string) []string {
			row[s.fixed] = row[s.fixed+1]
			return row
		}),
		s.turned("a key more, twice", 0, api.ErrHeader, func(row []string) []string { return append(row, "z", row[s.fixed]) }),
		s.turned("an empty key more", 0, api.ErrHeader, func(row []string) []string { return append(row, "") }),
	)
}

func (s sheet) columnFaults(row int) []fault {
	return []fault{
		s.turned("a field less", row, api.ErrColumns, func(row []string) []string { return row[:len(row)-1] }),
		s.turned("a field more", row, api.ErrColumns, func(row []string) []string { return append(row, "") }),
		s.turned("only an id", row, api.ErrColumns, func(row []string) []string { return row[:1] }),
		s.turned("an empty row", row, api.ErrColumns, func([]string) []string { return []string{""} }),
		s.turned("twice as many fields", row, api.ErrColumns, func(row []string) []string { return append(row, row...) }),
	}
}

func badIds() []string {
	return []string{"", "-1", "-0", "00", "03", "+3", " 3", "3 ", "x", "0x1", "1.0", "3;", "i:3", "9223372036854775808", "4294967296", "18446744073709551616"}
}

func (s sheet) idFaults(row int) []fault {
	var all []fault
	for _, id := range append(badIds(), s.limit, "9223372036854775807") {
		all = append(all, s.set(row, 0, id, s.id, 1))
	}
	if row == 1 {
		return all
	}
	return append(all, fault{s.what + ": an id twice", s.place + 100*row + 2, api.ErrTwice, setting, func(r *raw) {
		rows := *s.rows(r)
		rows[row][0] = rows[1][0]
	}})
}

func (s sheet) valueFaults(row int) []fault {
	var all []fault
	for _, c := range []struct {
		field string
		want  api.Errno
	}{
		{"1", api.ErrCell}, {" ", api.ErrCell}, {"i", api.ErrCell}, {"b:yes", api.ErrCell}, {"i:01", api.ErrDigit}, {"i: 1", api.ErrDigit}, {"i:9223372036854775808", api.ErrRange}, {"f:1", api.ErrFloat},
		{"s:" + strings.Repeat("x", 1001), api.ErrText}, {"i[]:" + strings.Repeat("1;", 41), api.ErrList}, {`s[]:a\b;`, api.ErrCell},
	} {
		all = append(all, s.set(row, s.fixed, c.field, c.want, 10), s.set(row, s.fixed+1, c.field, c.want, 11))
	}
	return all
}

func rowFaults(s sheet) []fault {
	all := s.headerFaults()
	for row := 1; row <= 3; row++ {
		all = append(all, s.columnFaults(row)...)
		all = append(all, s.idFaults(row)...)
		all = append(all, s.valueFaults(row)...)
	}
	return all
}

// labelFaults are those of the second field of a node.
func labelFaults() []fault {
	s := nodesSheet()
	var all []fault
	for row := 1; row <= 3; row++ {
		for _, name := range badNames()[:7] {
			all = append(all, s.set(row, 1, "A;"+name, api.ErrName, 3), s.set(row, 1, name+";A", api.ErrName, 3), s.set(row, 1, "A;"+name+";A", api.ErrName, 3))
		}
		for field, want := range map[string]api.Errno{
			";": api.ErrName, "9": api.ErrName, "A;": api.ErrName, ";A": api.ErrName, "A;;B": api.ErrName, "A;A": api.ErrTwice, "A;B;A": api.ErrTwice, "B;A;A": api.ErrTwice, "A;A;9": api.ErrTwice, "A;9;A": api.ErrName, "A,B": api.ErrName, "A; B": api.ErrName, " ": api.ErrName, strings.Repeat("A", 41): api.ErrName, strings.Repeat("A;", 20) + "A": api.ErrTwice,
		} {
			all = append(all, s.set(row, 1, field, want, 3))
		}
	}
	return all
}

// endFaults are those of the ends and the type of a relationship.
func endFaults() []fault {
	s := relsSheet()
	var all []fault
	for row := 1; row <= 3; row++ {
		for _, id := range append(badIds(), "2", "1023", "1024", "2047") {
			all = append(all, s.set(row, 1, id, api.ErrEnd, 3), s.set(row, 2, id, api.ErrEnd, 4))
		}
		for _, name := range append(badNames(), "T;", "T;S", "i:1") {
			all = append(all, s.set(row, 3, name, api.ErrName, 5))
		}
	}
	return all
}

// textFaults are those of whole texts.
func textFaults() []fault {
	nodes := func(what string, place int, want api.Errno, turn func(string) string) fault {
		return fault{"nodes: " + what, place, want, setting, func(r *raw) {
			r.turns = append(r.turns, func(nodes, _ *string) { *nodes = turn(*nodes) })
		}}
	}
	rels := func(what string, place int, want api.Errno, turn func(string) string) fault {
		return fault{"rels: " + what, place, want, setting, func(r *raw) {
			r.turns = append(r.turns, func(_, rels *string) { *rels = turn(*rels) })
		}}
	}
	var all []fault
	for _, c := range []struct {
		what string
		want api.Errno
		turn func(string) string
	}{
		{"a quotation mark", api.ErrQuote, func(s string) string { return s + "\"" }},
		{"a byte behind a quoted field", api.ErrQuote, func(s string) string { return s + "\"a\"b" }},
		{"half a line break", api.ErrBreak, func(s string) string { return s + "\n" }},
		{"other line breaks", api.ErrBreak, func(s string) string { return strings.ReplaceAll(s, "\r\n", "\n") + "\n" }},
		{"half a line break ahead", api.ErrBreak, func(s string) string { return "\r" + s }},
	} {
		all = append(all, nodes(c.what, nodesCsvPlace, c.want, c.turn), rels(c.what, relsCsvPlace, c.want, c.turn))
	}
	return all
}

// graphFaults are those of graphs that aren't valid. The one of the lowest node comes first, whatever the order of the rows.
func graphFaults() []fault {
	of := func(what string, behind int, want api.Errno, turn func(*raw)) fault {
		return fault{what, graphPlace + behind, want, addition, turn}
	}
	keys := func(rows [][]string, row, count int) {
		for k := range count {
			for i := range rows {
				rows[i] = append(rows[i], "")
			}
			rows[0][len(rows[0])-1] = "more" + strconv.Itoa(row) + "_" + strconv.Itoa(k)
			rows[row][len(rows[row])-1] = "i:1"
		}
	}
	return []fault{
		of("nine labels", 3, api.ErrLabels, func(r *raw) { r.nodes[1][1] = "I;H;G;F;E;D;C;B;A" }),
		of("nine labels of a lower node", 1, api.ErrLabels, func(r *raw) { r.nodes[3][1] = "A;B;C;D;E;F;G;H;I" }),
		of("17 properties of a node", 0, api.ErrProps, func(r *raw) { keys(r.nodes, 2, 17) }),
		of("17 properties of a relationship", 14, api.ErrProps, func(r *raw) { keys(r.rels, 1, 17) }),
		of("201 keys", 30, api.ErrTokens, func(r *raw) {
			for i := range 16 {
				id := strconv.Itoa(100 + i)
				r.nodes = append(r.nodes, append([]string{id}, make([]string, len(r.nodes[0])-1)...))
				keys(r.nodes, len(r.nodes)-1, 14)
			}
		}),
		of("too great a weight", 31, api.ErrWeight, func(r *raw) {
			r.rels[0] = append(r.rels[0], "heavy")
			for i := range 3 {
				r.rels[1+i] = append(r.rels[1+i], "")
			}
			for i := range 7 {
				row := append([]string{strconv.Itoa(300 + i), "0", "0", "T"}, make([]string, len(r.rels[0])-4)...)
				row[len(row)-1] = "s[]:" + strings.Repeat(strings.Repeat("x", 1000)+";", 40)
				r.rels = append(r.rels, row)
			}
		}),
	}
}

// P23.2: each fault alone, and each pair of them.
func TestFaults(t *testing.T) {
	nodes, rels := newRaw().texts()
	wantGraph(t, nodes, rels, sample())
	wantRead(t, nodes, rels)
	all := slices.Concat(rowFaults(nodesSheet()), labelFaults(), rowFaults(relsSheet()), endFaults(), textFaults(), graphFaults())
	for i, x := range all {
		r := newRaw()
		x.turn(r)
		nodes, rels := r.texts()
		if e := wantRead(t, nodes, rels); e != x.want {
			t.Errorf("%s: %v, want %v", x.what, e, x.want)
		}
		for _, y := range all[:i] {
			if x.place != y.place {
				wantFirst(t, x, y)
			}
		}
	}
}

// wantFirst puts two faults into one pair of texts, and asks for the one that is examined for first.
func wantFirst(t *testing.T, x, y fault) {
	t.Helper()
	if y.place < x.place {
		x, y = y, x
	}
	r := newRaw()
	if x.phase < y.phase {
		x.turn(r)
		y.turn(r)
	} else {
		y.turn(r)
		x.turn(r)
	}
	if _, e := table.Parse(r.texts()); e != x.want {
		t.Errorf("%s, and %s: %v, want %v", x.what, y.what, e, x.want)
	}
}

// P23.2: no text, and the shortest ones.
func TestShortTexts(t *testing.T) {
	const nodes, rels = ":ID,:LABEL", ":ID,:START,:END,:TYPE"
	for _, c := range []struct {
		nodes, rels string
		want        api.Errno
	}{
		{"", "", api.ErrHeader},
		{"", "\"", api.ErrQuote},
		{"\n", "\"", api.ErrBreak},
		{nodes, "", api.ErrHeader},
		{"", rels, api.ErrHeader},
		{nodes, rels, api.OK},
		{nodes + "\r\n", rels + "\r\n", api.OK},
		{"\":ID\",\":LABEL\"", "\":ID\",:START,:END,\":TYPE\"\r\n", api.OK},
		{":ID", rels, api.ErrHeader},
		{nodes, ":ID,:START,:END", api.ErrHeader},
		{rels, rels, api.ErrHeader},
		{nodes, nodes, api.ErrHeader},
		{"\r\n" + nodes, rels, api.ErrHeader},
		{nodes + "\r\n\r\n", rels, api.ErrColumns},
		{nodes + "\r\n7,", rels, api.OK},
		{nodes + "\r\n7", rels, api.ErrColumns},
		{nodes + ",", rels, api.ErrHeader},
		{nodes, rels + "\r\n0,0,0,T", api.ErrEnd},
		{nodes + "\r\n0,", rels + "\r\n0,0,0,T", api.OK},
	} {
		if e := wantRead(t, c.nodes, c.rels); e != c.want {
			t.Errorf("Parse(%q, %q): %v, want %v", c.nodes, c.rels, e, c.want)
		}
	}
}

// P23.2: what belongs to one text or row is not counted in another.
func TestTextsAreApart(t *testing.T) {
	const nodes, rels = ":ID,:LABEL,k\r\n0,A,i:1\r\n1,A,i:2\r\n", ":ID,:START,:END,:TYPE,k\r\n0,0,0,A,i:1\r\n1,0,0,A,i:1\r\n"
	if e := wantRead(t, nodes, rels); e != api.OK {
		t.Errorf("Parse: %v", e)
	}
}

// header gives the first row of a text with so many bytes, of which all but the first ones are keys.
func header(first string, size int) string {
	var b strings.Builder
	b.WriteString(first)
	for i := 0; size-b.Len() > 41+8; i++ {
		n := strconv.Itoa(i)
		b.WriteString("," + strings.Repeat("k", 40-len(n)) + n)
	}
	b.WriteString("," + strings.Repeat("z", (size-b.Len())/2-1))
	b.WriteString("," + strings.Repeat("y", size-b.Len()-1))
	return b.String()
}

// P1, P23.2: texts of MaxFile bytes, and of one more.
func TestMaxFile(t *testing.T) {
	const most = 16777216
	nodes, rels := header(":ID,:LABEL", most), header(":ID,:START,:END,:TYPE", most)
	if len(nodes) != most || len(rels) != most {
		t.Fatalf("%d and %d bytes", len(nodes), len(rels))
	}
	const shortNodes, shortRels = ":ID,:LABEL\r\n", ":ID,:START,:END,:TYPE\r\n"
	for i, c := range []struct {
		nodes, rels string
		want        api.Errno
	}{
		{nodes, rels, api.OK},
		{nodes + "z", rels, api.ErrLong},
		{nodes, rels + "z", api.ErrLong},
		{nodes + "z", "", api.ErrLong},
		{"", rels + "z", api.ErrLong},
		{"\"", strings.Repeat(",", most+1), api.ErrLong},
		{strings.Repeat("\"", most+1), "\"", api.ErrLong},
		{strings.Repeat(",", 1<<20), shortRels, api.ErrHeader},
		{shortNodes, strings.Repeat(",", 1<<20), api.ErrHeader},
		{strings.Repeat("\"", most), "\"", api.ErrQuote},
		{strings.Repeat("\r\n", 1<<20), "\n", api.ErrBreak},
		{shortNodes + strings.Repeat("\r\n", 1<<20), shortRels, api.ErrColumns},
		{shortNodes + strings.Repeat("5,\r\n", 1<<20), shortRels, api.ErrTwice},
	} {
		if g, e := table.Parse(c.nodes, c.rels); e != c.want || len(g.Nodes) != 0 || len(g.Rels) != 0 {
			t.Errorf("%d: Parse: %v, want %v", i, e, c.want)
		}
	}
}

// P1, P23.2: very many labels and properties of one node.
func TestVeryManyLabelsAndProperties(t *testing.T) {
	const many = 300000
	var labels, keys []string
	for i := range many {
		labels = append(labels, "L"+strconv.Itoa(i))
		keys = append(keys, "k"+strconv.Itoa(i))
	}
	text := func(labels string, values []string) string {
		s, _ := csv.Print([][]string{append([]string{":ID", ":LABEL"}, keys...), append([]string{"0", labels}, values...)})
		return s
	}
	values := slices.Repeat([]string{"i:1"}, many)
	for i, c := range []struct {
		nodes string
		want  api.Errno
	}{
		{text(strings.Join(labels, ";"), values), api.ErrLabels},
		{text(strings.Join(labels, ";")+";L0", values), api.ErrTwice},
		{text("", values), api.ErrProps},
		{text("", append(values[:many-1:many-1], "i:")), api.ErrDigit},
	} {
		if _, e := table.Parse(c.nodes, ":ID,:START,:END,:TYPE"); e != c.want {
			t.Errorf("%d: Parse: %v, want %v", i, e, c.want)
		}
	}
	sparse := make([]string, many)
	sparse[many-1], sparse[0] = "i:1", "i:2"
	if g, e := table.Parse(text("L2;L1", sparse), ":ID,:START,:END,:TYPE"); e != api.OK || !graph.Same(g, api.Graph{Nodes: []api.Node{{Labels: []string{"L1", "L2"}, Props: []api.Prop{prop("k0", number(2)), prop("k299999", number(1))}}}}) {
		t.Errorf("Parse = %+v, %v", g, e)
	}
}
