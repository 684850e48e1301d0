package cypher_test

import (
	"cmp"
	"regexp"
	"slices"
	"strconv"
	"strings"

	"satchel/api"
	"satchel/graph"
	"satchel/lexer"
	"satchel/number"
	"satchel/value"
)

// The model writes one letter for each token, and looks whether these letters are those of a script.
const (
	someWord    = `[CtBIFTw]`
	someLiteral = `(?:[tifs]|\[:(?:B(?:t(?:,t)*)?|I(?:i(?:,i)*)?|F(?:f(?:,f)*)?|T(?:s(?:,s)*)?)\])`
	someEntry   = someWord + `:` + someLiteral
	someMap     = `(?:\{(?:` + someEntry + `(?:,` + someEntry + `)*)?\})`
	someNode    = `\(` + someWord + `(?::` + someWord + `)*` + someMap + `?\)`
	someRel     = `\(` + someWord + `\)-\[` + someWord + `:` + someWord + someMap + `?\]>\(` + someWord + `\)`
	somePattern = `(?:` + someRel + `|` + someNode + `)`
)

var (
	whole   = regexp.MustCompile(`^(?:C` + somePattern + `(?:,` + somePattern + `)*;)*$`)
	pattern = regexp.MustCompile(somePattern)
	entry   = regexp.MustCompile(someEntry)

	nodeWord = regexp.MustCompile(`^n(0|[1-9][0-9]{0,3})$`)
	relWord  = regexp.MustCompile(`^r(0|[1-9][0-9]{0,3})$`)
)

func lettersOf(tokens []api.Token) string {
	words := map[string]string{"CREATE": "C", "true": "t", "false": "t", "bool": "B", "int": "I", "float": "F", "text": "T"}
	var letters strings.Builder
	for _, token := range tokens {
		switch token.Kind {
		case 1:
			letters.WriteString(cmp.Or(words[token.Text], "w"))
		case 2, 3, 4:
			letters.WriteByte("ifs"[token.Kind-2])
		case 5:
			letters.WriteString(token.Text[len(token.Text)-1:])
		}
	}
	return letters.String()
}

// part are some tokens and their letters.
type part struct {
	tokens  []api.Token
	letters string
}

func (p part) cut(from, to int) part {
	return part{p.tokens[from:to], p.letters[from:to]}
}

// read is what the document says of a script. It calls the layers below for what is said to be their error.
func read(text string) (api.Graph, api.Errno) {
	tokens, _, e := lexer.All(text)
	if e != api.OK {
		return api.Graph{}, e
	}
	all := part{tokens, lettersOf(tokens)}
	if !whole.MatchString(all.letters) {
		return api.Graph{}, api.ErrSyntax
	}
	var g api.Graph
	for _, place := range pattern.FindAllStringIndex(all.letters, -1) {
		p := all.cut(place[0], place[1])
		if strings.Contains(p.letters, "-") {
			e = readRel(&g, p)
		} else {
			e = readNode(&g, p)
		}
		if e != api.OK {
			return api.Graph{}, e
		}
	}
	sortGraph(g)
	if e, _ := graph.Check(g); e != api.OK {
		return api.Graph{}, e
	}
	return g, api.OK
}

// idOf gives -1 for a word that isn't that of an id.
func idOf(form *regexp.Regexp, word string, limit int) int {
	m := form.FindStringSubmatch(word)
	if m == nil {
		return -1
	}
	n, _ := strconv.Atoi(m[1])
	if n >= limit {
		return -1
	}
	return n
}

func hasNode(g api.Graph, id int) bool {
	return slices.ContainsFunc(g.Nodes, func(n api.Node) bool { return n.Id == id })
}

// endOf gives the id of a node that there must be.
func endOf(g api.Graph, word string) (int, api.Errno) {
	id := idOf(nodeWord, word, 1024)
	if id < 0 {
		return 0, api.ErrNodeId
	}
	if !hasNode(g, id) {
		return 0, api.ErrEnd
	}
	return id, api.OK
}

func readNode(g *api.Graph, p part) api.Errno {
	n := api.Node{Id: idOf(nodeWord, p.tokens[1].Text, 1024)}
	if n.Id < 0 {
		return api.ErrNodeId
	}
	if hasNode(*g, n.Id) {
		return api.ErrTwice
	}
	i := 2
	for ; p.letters[i] == ':'; i += 2 {
		label := p.tokens[i+1].Text
		if len(label) > 40 {
			return api.ErrName
		}
		if slices.Contains(n.Labels, label) {
			return api.ErrTwice
		}
		n.Labels = append(n.Labels, label)
	}
	var e api.Errno
	if n.Props, e = readProps(p.cut(i, len(p.tokens)-1)); e != api.OK {
		return e
	}
	g.Nodes = append(g.Nodes, n)
	return api.OK
}

func readRel(g *api.Graph, p part) api.Errno {
	from, e := endOf(*g, p.tokens[1].Text)
	if e != api.OK {
		return e
	}
	r := api.Rel{Id: idOf(relWord, p.tokens[5].Text, 2048), From: from, Type: p.tokens[7].Text}
	if r.Id < 0 {
		return api.ErrRelId
	}
	if slices.ContainsFunc(g.Rels, func(other api.Rel) bool { return other.Id == r.Id }) {
		return api.ErrTwice
	}
	if len(r.Type) > 40 {
		return api.ErrName
	}
	if r.Props, e = readProps(p.cut(8, len(p.tokens)-5)); e != api.OK {
		return e
	}
	if r.To, e = endOf(*g, p.tokens[len(p.tokens)-2].Text); e != api.OK {
		return e
	}
	g.Rels = append(g.Rels, r)
	return api.OK
}

func readProps(p part) ([]api.Prop, api.Errno) {
	var props []api.Prop
	for _, place := range entry.FindAllStringIndex(p.letters, -1) {
		key := p.tokens[place[0]].Text
		if len(key) > 40 {
			return nil, api.ErrName
		}
		if slices.ContainsFunc(props, func(other api.Prop) bool { return other.Key == key }) {
			return nil, api.ErrTwice
		}
		v := readLiteral(p.cut(place[0]+2, place[1]))
		if e := value.Check(v); e != api.OK {
			return nil, e
		}
		props = append(props, api.Prop{Key: key, Val: v})
	}
	return props, api.OK
}

func numOf(token api.Token) int64 {
	if token.Kind == 1 {
		return int64(len("false") - len(token.Text))
	}
	return token.Num
}

func readLiteral(p part) api.Value {
	if p.letters[0] != '[' {
		return api.Value{Kind: 1 + strings.Index("tifs", p.letters), Num: numOf(p.tokens[0]), Text: strings.Repeat(p.tokens[0].Text, strings.Count(p.letters, "s"))}
	}
	v := api.Value{Kind: 5 + strings.IndexByte("BIFT", p.letters[2])}
	for i := 3; i < len(p.tokens)-1; i += 2 {
		if v.Kind == 8 {
			v.Texts = append(v.Texts, p.tokens[i].Text)
		} else {
			v.Nums = append(v.Nums, numOf(p.tokens[i]))
		}
	}
	return v
}

func sortGraph(g api.Graph) {
	byKey := func(a, b api.Prop) int { return strings.Compare(a.Key, b.Key) }
	slices.SortFunc(g.Nodes, func(a, b api.Node) int { return cmp.Compare(a.Id, b.Id) })
	slices.SortFunc(g.Rels, func(a, b api.Rel) int { return cmp.Compare(a.Id, b.Id) })
	for _, n := range g.Nodes {
		slices.Sort(n.Labels)
		slices.SortFunc(n.Props, byKey)
	}
	for _, r := range g.Rels {
		slices.SortFunc(r.Props, byKey)
	}
}

// style is how a script is written, where that is free.
type style struct {
	gap   func() string             // between any two tokens
	space func() string             // where Print writes a space
	quote func(s string) string     // for a text
	join  func() string             // between two patterns
	empty func(props string) string // for a map without properties
}

// plain is the style of Print.
func plain() style {
	return style{
		gap:   func() string { return "" },
		space: func() string { return " " },
		quote: lexer.Quote,
		join:  func() string { return ";\nCREATE " },
		empty: func(string) string { return "" },
	}
}

func (s style) num(kind int, n int64) string {
	switch kind {
	case 2:
		return number.FormatInt(n)
	case 3:
		return number.FormatFloat(uint64(n))
	}
	return []string{"false", "true"}[n]
}

// literal writes a valid value.
func (s style) literal(v api.Value) string {
	switch v.Kind {
	case 1, 2, 3:
		return s.num(v.Kind, v.Num)
	case 4:
		return s.quote(v.Text)
	}
	form := "[" + s.gap() + ":" + s.gap() + []string{"bool", "int", "float", "text"}[v.Kind-5]
	var scalars []string
	for _, n := range v.Nums {
		scalars = append(scalars, s.num(v.Kind-4, n))
	}
	for _, text := range v.Texts {
		scalars = append(scalars, s.quote(text))
	}
	for i, scalar := range scalars {
		if i > 0 {
			form += s.gap() + "," + s.space() + scalar
		} else {
			form += " " + s.gap() + scalar
		}
	}
	return form + s.gap() + "]"
}

func (s style) props(props []api.Prop) string {
	form := s.gap() + "{"
	for i, p := range props {
		if i > 0 {
			form += s.gap() + "," + s.space()
		}
		form += s.gap() + p.Key + s.gap() + ":" + s.space() + s.literal(p.Val)
	}
	form += s.gap() + "}"
	if len(props) == 0 {
		return s.empty(form)
	}
	return s.space() + form
}

func (s style) node(n api.Node) string {
	form := "(" + s.gap() + "n" + strconv.Itoa(n.Id)
	for _, label := range n.Labels {
		form += s.gap() + ":" + s.gap() + label
	}
	return form + s.props(n.Props) + s.gap() + ")"
}

func (s style) end(id int) string {
	return "(" + s.gap() + "n" + strconv.Itoa(id) + s.gap() + ")"
}

func (s style) rel(r api.Rel) string {
	form := s.end(r.From) + s.gap() + "-" + s.gap() + "[" + s.gap() + "r" + strconv.Itoa(r.Id) + s.gap() + ":" + s.gap() + r.Type
	return form + s.props(r.Props) + s.gap() + "]" + s.gap() + "->" + s.gap() + s.end(r.To)
}

// patterns gives those of a graph's nodes, and then those of its relationships.
func (s style) patterns(g api.Graph) []string {
	var all []string
	for _, n := range g.Nodes {
		all = append(all, s.node(n))
	}
	for _, r := range g.Rels {
		all = append(all, s.rel(r))
	}
	return all
}

// script puts patterns together.
func (s style) script(patterns []string) string {
	var text strings.Builder
	for i, p := range patterns {
		if i > 0 {
			text.WriteString(s.join())
		} else {
			text.WriteString("CREATE ")
		}
		text.WriteString(p)
	}
	if len(patterns) > 0 {
		text.WriteString(";\n")
	}
	return text.String()
}

// write is the script of a valid graph.
func write(g api.Graph) string {
	s := plain()
	return s.script(s.patterns(g))
}
