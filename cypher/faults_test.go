package cypher_test

import (
	"strconv"
	"strings"
	"testing"

	"satchel/api"
	"satchel/cypher"
)

// P25.3: the document's examples, and the edges of the grammar.
func TestScripts(t *testing.T) {
	for _, c := range []struct {
		script string
		e      api.Errno
	}{
		{"", api.OK}, {" \n// nothing", api.OK},
		{"CREATE (n1), (n0:A {k: [:int 1]}), (n0)-[r0:T]->(n1);", api.OK},
		{"CREATE (n0);CREATE(n1),(n2);", api.OK},
		{"CREATE (n0 {});", api.OK}, {"CREATE (n0:A {});", api.OK}, {"CREATE (n0:A{k:true});", api.OK},
		{"CREATE (n0), (n0)-[r0:T {}]->(n0);", api.OK},
		{"CREATE ( n0 ) , ( n0 ) - [ r0 : T ] -> ( n0 ) ;", api.OK},
		{"CREATE (n0 {true: true, false: false, int: [:int], CREATE: 'CREATE'});", api.OK},
		{"CREATE (n0:CREATE:true:int), (n0)-[r0:CREATE]->(n0);", api.OK},
		{"CREATE (n0 {k: [:text'a','b'], b: [:bool true,false], f: [:float 0x0,-0x0]});", api.OK},
		{"CREATE (n0 {k: [ : int 1 ] });", api.OK},
		{"CREATE (n0)", api.ErrSyntax}, {"CREATE (n0 {k: [:int 'a']});", api.ErrSyntax},
		{"CREATE", api.ErrSyntax}, {"CREATE;", api.ErrSyntax}, {";", api.ErrSyntax}, {"CREATE (n0);;", api.ErrSyntax}, {"(n0);", api.ErrSyntax}, {"create (n0);", api.ErrSyntax}, {"'CREATE' (n0);", api.ErrSyntax}, {"CREATE CREATE (n0);", api.ErrSyntax}, {"CREATED (n0);", api.ErrSyntax}, {"CREATE (n0); (n1);", api.ErrSyntax}, {"CREATE (n0), CREATE (n1);", api.ErrSyntax}, {"CREATE (n0) CREATE (n1);", api.ErrSyntax}, {"CREATE (n0),;", api.ErrSyntax}, {"CREATE , (n0);", api.ErrSyntax}, {"CREATE (n0), , (n1);", api.ErrSyntax}, {"CREATE (n0) (n1);", api.ErrSyntax}, {"CREATE n0;", api.ErrSyntax}, {"CREATE ();", api.ErrSyntax}, {"CREATE (:A);", api.ErrSyntax}, {"CREATE ({});", api.ErrSyntax}, {"CREATE ('n0');", api.ErrSyntax}, {"CREATE (5);", api.ErrSyntax}, {"CREATE (0x0);", api.ErrSyntax}, {"CREATE (n0;", api.ErrSyntax}, {"CREATE ((n0));", api.ErrSyntax}, {"CREATE '(' n0);", api.ErrSyntax},
		{"CREATE (n0:);", api.ErrSyntax}, {"CREATE (n0:A:);", api.ErrSyntax}, {"CREATE (n0::A);", api.ErrSyntax}, {"CREATE (n0 A);", api.ErrSyntax}, {"CREATE (n0:'A');", api.ErrSyntax}, {"CREATE (n0:A,B);", api.ErrSyntax}, {"CREATE (n0 {} :A);", api.ErrSyntax}, {"CREATE (n0 {} {});", api.ErrSyntax}, {"CREATE (n0) {};", api.ErrSyntax}, {"CREATE (n0:5);", api.ErrSyntax},
		{"CREATE (n0 {k});", api.ErrSyntax}, {"CREATE (n0 {k:});", api.ErrSyntax}, {"CREATE (n0 {:1});", api.ErrSyntax}, {"CREATE (n0 {k 1});", api.ErrSyntax}, {"CREATE (n0 {k: 1,});", api.ErrSyntax}, {"CREATE (n0 {,k: 1});", api.ErrSyntax}, {"CREATE (n0 {,});", api.ErrSyntax}, {"CREATE (n0 {k: 1 m: 2});", api.ErrSyntax}, {"CREATE (n0 {k: 1; m: 2});", api.ErrSyntax}, {"CREATE (n0 {'k': 1});", api.ErrSyntax}, {"CREATE (n0 {1: 1});", api.ErrSyntax}, {"CREATE (n0 {k: 1);", api.ErrSyntax}, {"CREATE (n0 k: 1});", api.ErrSyntax}, {"CREATE (n0 {k: 1 2});", api.ErrSyntax}, {"CREATE (n0 {k:: 1});", api.ErrSyntax},
		{"CREATE (n0 {k: yes});", api.ErrSyntax}, {"CREATE (n0 {k: True});", api.ErrSyntax}, {"CREATE (n0 {k: null});", api.ErrSyntax}, {"CREATE (n0 {k: {}});", api.ErrSyntax}, {"CREATE (n0 {k: (});", api.ErrSyntax}, {"CREATE (n0 {k: - 1});", api.ErrSyntax}, {"CREATE (n0 {k: int});", api.ErrSyntax}, {"CREATE (n0 {k: :});", api.ErrSyntax},
		{"CREATE (n0 {k: []});", api.ErrSyntax}, {"CREATE (n0 {k: [:]});", api.ErrSyntax}, {"CREATE (n0 {k: [int]});", api.ErrSyntax}, {"CREATE (n0 {k: [1]});", api.ErrSyntax}, {"CREATE (n0 {k: [:real 1]});", api.ErrSyntax}, {"CREATE (n0 {k: [:Int 1]});", api.ErrSyntax}, {"CREATE (n0 {k: [:'int' 1]});", api.ErrSyntax}, {"CREATE (n0 {k: [:int,]});", api.ErrSyntax}, {"CREATE (n0 {k: [:int 1,]});", api.ErrSyntax}, {"CREATE (n0 {k: [:int ,1]});", api.ErrSyntax}, {"CREATE (n0 {k: [:int 1 2]});", api.ErrSyntax}, {"CREATE (n0 {k: [:int: 1]});", api.ErrSyntax}, {"CREATE (n0 {k: [:int 1});", api.ErrSyntax}, {"CREATE (n0 {k: [:int [:int 1]]});", api.ErrSyntax}, {"CREATE (n0 {k: [:int 1, 'a']});", api.ErrSyntax}, {"CREATE (n0 {k: [:int 1, true]});", api.ErrSyntax}, {"CREATE (n0 {k: [:int 0x0]});", api.ErrSyntax}, {"CREATE (n0 {k: [:float 0]});", api.ErrSyntax}, {"CREATE (n0 {k: [:bool 1]});", api.ErrSyntax}, {"CREATE (n0 {k: [:text true]});", api.ErrSyntax}, {"CREATE (n0 {k: [:bool 'true']});", api.ErrSyntax}, {"CREATE (n0 {k: [:bool yes]});", api.ErrSyntax}, {"CREATE (n0 {k: 'true'});", api.OK},
		{"CREATE (n0)->(n0);", api.ErrSyntax}, {"CREATE (n0)-(n0);", api.ErrSyntax}, {"CREATE (n0)-[r0:T]-(n0);", api.ErrSyntax}, {"CREATE (n0)-[r0]->(n0);", api.ErrSyntax}, {"CREATE (n0)-[:T]->(n0);", api.ErrSyntax}, {"CREATE (n0)-[r0:T:S]->(n0);", api.ErrSyntax}, {"CREATE (n0)-[]->(n0);", api.ErrSyntax}, {"CREATE (n0)-[r0:T]->(n0:A);", api.ErrSyntax}, {"CREATE (n0)-[r0:T]->(n0 {});", api.ErrSyntax}, {"CREATE (n0:A)-[r0:T]->(n0);", api.ErrSyntax}, {"CREATE (n0 {})-[r0:T]->(n0);", api.ErrSyntax}, {"CREATE (n0)-[r0:T]->(n0)-[r1:T]->(n0);", api.ErrSyntax}, {"CREATE (n0)-[r0:T]->();", api.ErrSyntax}, {"CREATE (n0)-[r0:T]->(n0;", api.ErrSyntax}, {"CREATE (n0)-[r0:T->(n0);", api.ErrSyntax}, {"CREATE (n0)-[r0:T {k: 1]->(n0);", api.ErrSyntax}, {"CREATE (n0)-[r0:T] {}->(n0);", api.ErrSyntax}, {"CREATE (n0)-[r0:'T']->(n0);", api.ErrSyntax}, {"CREATE (n0)-[5:T]->(n0);", api.ErrSyntax}, {"CREATE (n0)-[r0:T]->(5);", api.ErrSyntax}, {"CREATE (n0)-5;", api.ErrSyntax}, {"CREATE (n0)--[r0:T]->(n0);", api.ErrSyntax}, {"CREATE (n0)-[r0:T]-;", api.ErrSyntax}, {"CREATE (n0)-[r0:T]->;", api.ErrSyntax}, {"CREATE (n0)-", api.ErrSyntax}, {"CREATE (n0)-[r0:T]->(n0)", api.ErrSyntax},
		{"CREATE (n00);", api.ErrNodeId}, {"CREATE (n0)-[r0:T]->(n0), (n0);", api.ErrEnd}, {"CREATE (n0), (n0);", api.ErrTwice}, {"CREATE (n0); CREATE (n0);", api.ErrTwice},
		{"#", api.ErrLetter}, {"CREATE (n0) #", api.ErrLetter}, {"; '", api.ErrOpen}, {`; '\q'`, api.ErrEscape}, {"; 07", api.ErrDigit}, {"; 9223372036854775808", api.ErrRange}, {"; 0x1", api.ErrFloat}, {"CREATE (n0 {k: 1.5});", api.ErrDigit}, {"CREATE (n0 {k: 'a\n'});", api.ErrLetter},
		{"CREATE (n00); CREATE", api.ErrSyntax}, {"CREATE (n0), (n0),;", api.ErrSyntax}, {"CREATE (x)", api.ErrSyntax},
	} {
		if e := wantRead(t, c.script); e != c.e {
			t.Errorf("Parse(%q): %v, want %v", c.script, e, c.e)
		}
	}
}

// sequences gives all sequences of up to so many tokens, with blanks between them.
func sequences(most int, tokens ...string) []string {
	all := []string{""}
	last := all
	for range most {
		var next []string
		for _, s := range last {
			for _, token := range tokens {
				next = append(next, s+" "+token)
			}
		}
		all = append(all, next...)
		last = next
	}
	return all
}

// P25.3: all short sequences of tokens, in each place of the grammar.
func TestAllShortSequences(t *testing.T) {
	found := map[api.Errno]int{}
	for _, c := range []struct {
		ahead, behind string
		most          int
		tokens        []string
	}{
		{"", "", 5, []string{"CREATE", "(", ")", "n0", ",", ";", "-"}},
		{"CREATE (n0)", ";", 6, []string{"(", "n1", ")", ",", "CREATE", ";"}},
		{"CREATE (n0", ");", 5, []string{":", "A", "{", "}", "1", ",", "'x'"}},
		{"CREATE (n0 {", "});", 5, []string{"k", ":", "1", ",", "true", "m", "}"}},
		{"CREATE (n0 {k:", "});", 5, []string{"[", ":", "int", "1", ",", "]", "'a'"}},
		{"CREATE (n0 {k: [:", "]});", 4, []string{"bool", "true", "int", "5", "float", "0x0", "text", "'x'", ","}},
		{"CREATE (n0), (n0)", ";", 5, []string{"-", "[", "r0", ":", "]", "->", "("}},
		{"CREATE (n0), (n0) -", "-> (n0);", 6, []string{"[", "r0", ":", "T", "]", "{", "}"}},
		{"CREATE (n0), (n0) - [r0:T]", ";", 5, []string{"->", "-", "(", "n0", ")", ":", ","}},
		{"CREATE (n0), (n0) - [r0:T", "]->(n0);", 5, []string{"{", "}", "k", ":", "1", ",", "]"}},
	} {
		for _, s := range sequences(c.most, c.tokens...) {
			found[wantRead(t, c.ahead+s+c.behind)]++
		}
	}
	for _, e := range []api.Errno{api.OK, api.ErrSyntax, api.ErrNodeId, api.ErrTwice, api.ErrRelId} {
		if found[e] == 0 {
			t.Errorf("no script with %v: %v", e, found)
		}
	}
}

// P25.3: each token of a script left out, doubled, and put in place of each other one.
func TestEachToken(t *testing.T) {
	tokens := strings.Split("CREATE ( n0 : A : B { k : 1 , m : [ : text 'a' , 'b' ] , b : true } ) , ( n2 { } ) ; CREATE ( n0 ) - [ r5 : T { f : 0x0 , e : [ : int ] } ] -> ( n2 ) ;", " ")
	script := func(ahead []string, one string, behind []string) string {
		return strings.Join(ahead, " ") + " " + one + " " + strings.Join(behind, " ")
	}
	if e := wantRead(t, strings.Join(tokens, " ")); e != api.OK {
		t.Fatalf("the script is wrong: %v", e)
	}
	for i := range tokens {
		wantRead(t, strings.Join(tokens[:i], " "))
		wantRead(t, script(tokens[:i], "", tokens[i+1:]))
		for _, other := range append(tokens, "-5", "x", "int", "float", "false") {
			wantRead(t, script(tokens[:i], other, tokens[i+1:]))
			wantRead(t, script(tokens[:i], other, tokens[i:]))
		}
	}
}

// piece is a place in newScript, which a fault fills.
type piece int

// The pieces, in the order of examination.
const (
	behindAll piece = iota // what only the lexer looks at
	ending
	firstNode
	firstLabels
	firstProps
	secondNode
	secondLabels
	secondProps
	fromNode
	relId
	relType
	relProps
	toNode
	thirdNode
	lastRel
	wholeGraph
	pieceCount
)

// newScript is a small graph with something of everything, and hardly anything of it in order.
func newScript() [pieceCount]string {
	return [pieceCount]string{
		ending: ";", firstNode: "n3", firstLabels: ":B:A", firstProps: "k: 1, a: 'x'", secondNode: "n0", secondLabels: ":C", secondProps: "b: [:bool true], f: 0x0",
		fromNode: "n0", relId: "r0", relType: "T", relProps: "w: [:text 'a'], k: true", toNode: "n3", thirdNode: "n1", lastRel: "(n1)-[r2:S]->(n1)",
	}
}

// fill gives the script of which these are the pieces.
func fill(p [pieceCount]string) string {
	return "CREATE (" + p[firstNode] + p[firstLabels] + "{" + p[firstProps] + "}), (" + p[secondNode] + p[secondLabels] + "{" + p[secondProps] + "});\n" +
		"CREATE (" + p[fromNode] + ")-[" + p[relId] + ":" + p[relType] + "{" + p[relProps] + "}]->(" + p[toNode] + "),\n(" + p[thirdNode] + "), " + p[lastRel] + p[wholeGraph] + p[ending] + " " + p[behindAll]
}

// fault is something that is wrong in one piece of newScript.
type fault struct {
	place piece
	what  string
	want  api.Errno
}

func badIds(letter, limit string) []string {
	all := []string{letter, letter + letter, letter + "00", letter + "01", letter + "_", letter + "_1", letter + "1a", letter + "x", strings.ToUpper(letter) + "1", "_" + letter + "1", "x1", letter + limit, letter + "9999", letter + "4294967296", letter + "9223372036854775807", letter + "9223372036854775808", letter + "18446744073709551617", "CREATE", "true"}
	if letter == "n" {
		return append(all, "r0", "r1")
	}
	return append(all, "n0", "n1")
}

func labelFaults(place piece) []fault {
	long := ":" + strings.Repeat("a", 41)
	return []fault{
		{place, long, api.ErrName}, {place, ":A" + long, api.ErrName}, {place, long + ":A:A", api.ErrName}, {place, ":" + strings.Repeat("_", 1000), api.ErrName}, {place, long + long, api.ErrName},
		{place, ":A:A", api.ErrTwice}, {place, ":A:B:A", api.ErrTwice}, {place, ":B:A:A", api.ErrTwice}, {place, ":A:A" + long, api.ErrTwice}, {place, strings.Repeat(":A", 20), api.ErrTwice},
	}
}

func propFaults(place piece) []fault {
	long, text := strings.Repeat("a", 41), "'"+strings.Repeat("x", 1001)+"'"
	list := "[:int " + strings.Repeat("1, ", 40) + "1]"
	return []fault{
		{place, long + ": 1", api.ErrName}, {place, "k: 1, " + long + ": 1", api.ErrName}, {place, long + ": 1, " + long + ": 1", api.ErrName}, {place, long + ": " + text, api.ErrName}, {place, long + ": 1, k: " + text, api.ErrName},
		{place, "k: 1, k: 1", api.ErrTwice}, {place, "k: 1, a: 1, k: 'x'", api.ErrTwice}, {place, "k: 1, k: " + text, api.ErrTwice}, {place, "k: 1, k: 1, " + long + ": 1", api.ErrTwice}, {place, "k: 1, k: 1, m: " + list, api.ErrTwice},
		{place, "k: " + text, api.ErrText}, {place, "k: " + text + ", k: 1", api.ErrText}, {place, "k: " + text + ", " + long + ": 1", api.ErrText}, {place, "a: 1, k: [:text 'x', " + text + "]", api.ErrText}, {place, "k: " + text + ", m: " + list, api.ErrText},
		{place, "k: " + list, api.ErrList}, {place, "k: " + list + ", k: 1", api.ErrList}, {place, "k: " + list + ", m: " + text, api.ErrList}, {place, "k: [:text " + strings.Repeat("'', ", 40) + text + "]", api.ErrList}, {place, "k: [:bool " + strings.Repeat("true, ", 40) + "true]", api.ErrList}, {place, "k: [:float " + strings.Repeat("0x0, ", 40) + "0x0]", api.ErrList},
	}
}

// idFaults are those of the words of nodes and of the relationship.
func idFaults() []fault {
	var all []fault
	for _, place := range []piece{firstNode, secondNode, fromNode, toNode, thirdNode} {
		for _, word := range badIds("n", "1024") {
			all = append(all, fault{place, word, api.ErrNodeId})
		}
	}
	for _, place := range []piece{fromNode, toNode} {
		// Node 1 is created behind the relation.
		all = append(all, fault{place, "n1", api.ErrEnd}, fault{place, "n2", api.ErrEnd}, fault{place, "n1023", api.ErrEnd})
	}
	for _, word := range badIds("r", "2048") {
		all = append(all, fault{relId, word, api.ErrRelId})
	}
	return append(all,
		fault{secondNode, "n3", api.ErrTwice}, fault{thirdNode, "n3", api.ErrTwice}, fault{thirdNode, "n0", api.ErrTwice},
		fault{relType, strings.Repeat("T", 41), api.ErrName}, fault{relType, strings.Repeat("T", 1000), api.ErrName},
	)
}

// lastFaults are those of a relation behind another one.
func lastFaults() []fault {
	long, text := strings.Repeat("T", 41), "'"+strings.Repeat("x", 1001)+"'"
	return []fault{
		{lastRel, "(n1)-[r0:S]->(n1)", api.ErrTwice}, {lastRel, "(n1)-[r0:S]->(x)", api.ErrTwice}, {lastRel, "(n1)-[r0:" + long + "]->(n1)", api.ErrTwice}, {lastRel, "(n1)-[r0:S {k: " + text + "}]->(n1)", api.ErrTwice},
		{lastRel, "(n7)-[r0:S]->(n1)", api.ErrEnd}, {lastRel, "(n7)-[x:S]->(n1)", api.ErrEnd}, {lastRel, "(x)-[r0:S]->(n7)", api.ErrNodeId}, {lastRel, "(n0)-[r1:S]->(n7)", api.ErrEnd}, {lastRel, "(n0)-[r1:S]->(x)", api.ErrNodeId},
		{lastRel, "(n1)-[x:S]->(n1)", api.ErrRelId}, {lastRel, "(n1)-[r2048:" + long + "]->(x)", api.ErrRelId}, {lastRel, "(n1)-[r1:" + long + " {k: " + text + "}]->(x)", api.ErrName}, {lastRel, "(n1)-[r1:S {k: " + text + "}]->(x)", api.ErrText},
	}
}

// textFaults are those of the whole script.
func textFaults() []fault {
	return []fault{
		{behindAll, "#", api.ErrLetter}, {behindAll, "'", api.ErrOpen}, {behindAll, `'\q'`, api.ErrEscape}, {behindAll, "00", api.ErrDigit}, {behindAll, "9223372036854775808", api.ErrRange}, {behindAll, "0x", api.ErrFloat},
		{ending, "", api.ErrSyntax}, {ending, ";;", api.ErrSyntax}, {ending, ",;", api.ErrSyntax}, {ending, "; CREATE", api.ErrSyntax}, {ending, "-;", api.ErrSyntax}, {ending, "; (n9);", api.ErrSyntax},
	}
}

// graphFaults are those of graphs that aren't valid. The one of the lowest node comes first, whatever the order of the patterns.
func graphFaults() []fault {
	long := "'" + strings.Repeat("x", 1000) + "'"
	var labels, types, keys, weight strings.Builder
	for i := range 26 {
		labels.WriteString(", (n" + strconv.Itoa(100+i))
		for k := range 8 {
			labels.WriteString(":L" + strconv.Itoa(8*i+k))
		}
		labels.WriteString(")")
	}
	for i := range 201 {
		types.WriteString(", (n1)-[r" + strconv.Itoa(100+i) + ":T" + strconv.Itoa(i) + "]->(n1)")
	}
	for i := range 13 {
		keys.WriteString(", (n" + strconv.Itoa(200+i) + " {" + props(16, "k"+strconv.Itoa(i)+"_") + "})")
	}
	for i := range 7 {
		weight.WriteString(", (n" + strconv.Itoa(300+i) + " {heavy: [:text" + strings.Repeat(" "+long+",", 39) + " " + long + "]})")
	}
	return []fault{
		{wholeGraph, ", (n7:A:B:C:D:E:F:G:H:I)", api.ErrLabels},
		{wholeGraph, ", (n8 {" + props(17, "k") + "}), (n7:I:H:G:F:E:D:C:B:A)", api.ErrLabels},
		{wholeGraph, ", (n8:A:B:C:D:E:F:G:H:I), (n7 {" + props(17, "k") + "})", api.ErrProps},
		{wholeGraph, ", (n7:A:B:C:D:E:F:G:H:I {" + props(17, "k") + "})", api.ErrLabels},
		{wholeGraph, ", (n1)-[r9:T {" + props(17, "k") + "}]->(n1), (n9:A:B:C:D:E:F:G:H:I)", api.ErrLabels},
		{wholeGraph, ", (n1)-[r9:T {" + props(17, "k") + "}]->(n1)" + weight.String(), api.ErrProps},
		{wholeGraph, labels.String() + weight.String(), api.ErrTokens},
		{wholeGraph, types.String() + weight.String(), api.ErrTokens},
		{wholeGraph, keys.String() + weight.String(), api.ErrTokens},
		{wholeGraph, weight.String(), api.ErrWeight},
	}
}

// props gives so many properties.
func props(count int, key string) string {
	var all []string
	for i := range count {
		all = append(all, key+strconv.Itoa(i)+": 1")
	}
	return strings.Join(all, ", ")
}

// P25.3: each fault alone, and each pair of them in different pieces.
func TestFaults(t *testing.T) {
	if e := wantRead(t, fill(newScript())); e != api.OK {
		t.Fatalf("the script is wrong: %v", e)
	}
	all := append(idFaults(), textFaults()...)
	for _, place := range []piece{firstProps, secondProps, relProps} {
		all = append(all, propFaults(place)...)
	}
	all = append(append(all, labelFaults(firstLabels)...), labelFaults(secondLabels)...)
	all = append(append(all, lastFaults()...), graphFaults()...)
	for i, x := range all {
		p := newScript()
		p[x.place] = x.what
		if e := wantRead(t, fill(p)); e != x.want {
			t.Errorf("%.80q: %v, want %v", x.what, e, x.want)
		}
		for _, y := range all[:i] {
			if x.place != y.place {
				wantFirst(t, x, y)
			}
		}
	}
}

// wantFirst puts two faults into one script, and asks for the one that is examined for first.
func wantFirst(t *testing.T, x, y fault) {
	t.Helper()
	if y.place < x.place {
		x, y = y, x
	}
	p := newScript()
	p[x.place], p[y.place] = x.what, y.what
	if _, e := cypher.Parse(fill(p)); e != x.want {
		t.Errorf("%.80q, and %.80q: %v, want %v", x.what, y.what, e, x.want)
	}
}

// P25.3: the ids at their edges, names of 40 bytes, and as much as there may be in one pattern.
func TestEdges(t *testing.T) {
	name, long := strings.Repeat("a", 40), "'"+strings.Repeat(`\x41`, 1000)+"'"
	for _, s := range []string{
		"CREATE (n1023), (n1023)-[r2047:T]->(n1023);",
		"CREATE (n0:" + name + ":b" + name[1:] + " {" + name + ": 1, b" + name[1:] + ": 1}), (n0)-[r0:" + name + " {" + name + ": 1}]->(n0);",
		"CREATE (n0:H:G:F:E:D:C:B:A {" + props(16, "k") + "});",
		"CREATE (n0 {t: " + long + ", l: [:text " + strings.Repeat(long+",", 39) + long + "], i: [:int " + strings.Repeat("1,", 39) + "1]});",
		"CREATE (n0:A {A: 1}), (n1:A {A: 1}), (n0)-[r0:A {A: 1}]->(n1), (n0)-[r1:A {A: 1}]->(n1);",
		"CREATE (n1), (n1)-[r1:T]->(n1), (n0), (n0)-[r0:T]->(n1);",
	} {
		if e := wantRead(t, s); e != api.OK {
			t.Errorf("Parse(%.80q): %v", s, e)
		}
	}
}

// P1, P25.3: scripts of MaxFile bytes, and of one more.
func TestMaxFile(t *testing.T) {
	const most = 16777216
	good := "CREATE (n5:A {k: 1});"
	g := api.Graph{Nodes: []api.Node{{Id: 5, Labels: []string{"A"}, Props: []api.Prop{prop("k", integer(1))}}}}
	padded := good + strings.Repeat(" ", most-len(good))
	wantGraph(t, padded, g)
	wantGraph(t, strings.Repeat("/", most-len(good)-1)+"\n"+good, g)
	for i, c := range []struct {
		script string
		want   api.Errno
	}{
		{padded + " ", api.ErrLong},
		{"#" + strings.Repeat(" ", most), api.ErrLong},
		{strings.Repeat(";", most+1), api.ErrLong},
		{strings.Repeat("(", 1<<20), api.ErrSyntax},
		{"CREATE (n0 {k: [:int 1" + strings.Repeat(",1", 1<<20) + "]});", api.ErrList},
		{"CREATE (n0 {k: [:text ''" + strings.Repeat(",''", 1<<20) + ",1]});", api.ErrSyntax},
		{"CREATE (n0 {k: '" + strings.Repeat("a", most-30) + "'});", api.ErrText},
		{"CREATE (n0:" + strings.Repeat("a", most-30) + ");", api.ErrName},
		{"CREATE (n" + strings.Repeat("1", most-30) + ");", api.ErrNodeId},
		{"CREATE (n0)" + strings.Repeat(",(n0)", 1<<20) + ";", api.ErrTwice},
		{"CREATE (n0)" + strings.Repeat(",(n0)", 1<<20) + ",;", api.ErrSyntax},
		{strings.Repeat("CREATE (n0);", 1<<20), api.ErrTwice},
	} {
		if g, e := cypher.Parse(c.script); e != c.want || len(g.Nodes) != 0 || len(g.Rels) != 0 {
			t.Errorf("%d: Parse: %v, want %v", i, e, c.want)
		}
	}
}

// P1, P25.3: very many labels and properties of one node.
func TestVeryManyLabelsAndProperties(t *testing.T) {
	const many = 300000
	var labels strings.Builder
	for i := range many {
		labels.WriteString(":L" + strconv.Itoa(i))
	}
	for i, c := range []struct {
		pattern string
		want    api.Errno
	}{
		{"(n0" + labels.String() + ")", api.ErrLabels},
		{"(n0" + labels.String() + ":L0)", api.ErrTwice},
		{"(n0 {" + props(many, "k") + "})", api.ErrProps},
		{"(n0 {" + props(many, "k") + ", k0: 1})", api.ErrTwice},
	} {
		if _, e := cypher.Parse("CREATE " + c.pattern + ";"); e != c.want {
			t.Errorf("%d: Parse: %v, want %v", i, e, c.want)
		}
	}
}
