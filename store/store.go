// Package store belongs to no layer: it has what the stores of both versions have in common (see shared/doc/14-storeone.md and 18-storetwo.md). At the first thing that is wrong its functions give up by a panic with the error, which the functions that those chapters list recover.
package store

import (
	"cmp"
	"slices"

	"satchel/api"
	"satchel/blocks"
	"satchel/graph"
	"satchel/recfile"
	"satchel/tokens"
)

// The kinds of files, in the order in which they are opened.
const (
	Meta = iota // holds no records
	Labels
	Types
	Keys
	Nodes
	Rels
	Props  // of version 1 only
	Groups // of version 2 only
	Blobs
	kindCount
)

const letters = "GSTR\x00" // what meta holds ahead of the version

// names are those of the files, by kinds.
var names = [kindCount]string{
	Meta:   "meta",
	Labels: "labels",
	Types:  "types",
	Keys:   "keys",
	Nodes:  "nodes",
	Rels:   "rels",
	Props:  "props",
	Groups: "groups",
	Blobs:  "blobs",
}

// Format is what the stores of one version look like: the sizes of the records in their files, by kinds. That of the tables, and of meta, is 0, and so is that of a file which this version doesn't have.
type Format struct {
	Version int
	Sizes   [kindCount]int
}

// has tells whether a store has a file of this kind.
func (f Format) has(kind int) bool {
	return kind <= Keys || f.Sizes[kind] > 0
}

// kinds returns the kinds of a store's files, which are sorted by name.
func (f Format) kinds() []int {
	var kinds []int
	for kind := range kindCount {
		if f.has(kind) {
			kinds = append(kinds, kind)
		}
	}
	slices.SortFunc(kinds, func(a, b int) int { return cmp.Compare(names[a], names[b]) })
	return kinds
}

// Store is what the files of a store hold, by kinds, but for meta, which is always the same.
type Store struct {
	Tables  [Keys + 1]*tokens.Table
	Records [Blobs + 1]*recfile.File
	format  Format
	owned   Set // the blobs that were read
}

// New gives a store that has the names of a graph, but nothing else yet.
func New(g api.Graph, f Format) *Store {
	s := &Store{format: f}
	for kind := Labels; kind <= Keys; kind++ {
		s.Tables[kind] = newTable(g, kind, f.Version)
	}
	for kind := Nodes; kind <= Blobs; kind++ {
		if f.has(kind) {
			s.Records[kind] = Must(recfile.New(kind, f.Version, f.Sizes[kind]))
		}
	}
	return s
}

// newTable makes a table of the names in a graph. The kinds of tables are the sorts of names.
func newTable(g api.Graph, kind, version int) *tokens.Table {
	t := Must(tokens.New(kind, version))
	for _, name := range graph.Names(g, kind) {
		Must(t.Intern(name))
	}
	return t
}

// Files gives the files that a store consists of.
func (s *Store) Files() []api.File {
	var files []api.File
	for _, kind := range s.format.kinds() {
		files = append(files, api.File{Name: names[kind], Data: s.data(kind)})
	}
	return files
}

func (s *Store) data(kind int) []byte {
	switch {
	case kind == Meta:
		return append([]byte(letters), byte(s.format.Version))
	case kind <= Keys:
		return s.Tables[kind].Bytes()
	}
	return s.Records[kind].Bytes()
}

// Open gives the store that files are, as far as each of them can be judged on its own.
func Open(files []api.File, f Format) *Store {
	data := dataOf(files, f.kinds())
	checkMeta(data[Meta], f.Version)
	s := &Store{format: f, owned: Set{}}
	for kind := Labels; kind <= Keys; kind++ {
		s.Tables[kind] = Must(tokens.Open(data[kind], kind, f.Version))
	}
	for kind := Nodes; kind <= Blobs; kind++ {
		if f.has(kind) {
			s.Records[kind] = openRecords(data[kind], kind, f)
		}
	}
	Demand(blocks.Check(s.Records[Blobs]))
	Expect(s.Records[Nodes].Count() <= api.MaxNodes, api.ErrNodeId)
	Expect(s.Records[Rels].Count() <= api.MaxRels, api.ErrRelId)
	return s
}

// dataOf returns the bytes of files, by kinds. In the files, the kinds are in the order given.
func dataOf(files []api.File, kinds []int) [kindCount][]byte {
	Expect(len(files) == len(kinds), api.ErrFiles)
	var data [kindCount][]byte
	for i, kind := range kinds {
		Expect(files[i].Name == names[kind], api.ErrFiles)
		data[kind] = files[i].Data
	}
	return data
}

func checkMeta(meta []byte, version int) {
	Expect(len(meta) == len(letters)+1, api.ErrMeta)
	Expect(string(meta[:len(letters)]) == letters, api.ErrMeta)
	Expect(int(meta[len(letters)]) == version, api.ErrVersion)
}

func openRecords(data []byte, kind int, format Format) *recfile.File {
	f := Must(recfile.Open(data))
	Expect(f.Kind() == kind && f.Size() == format.Sizes[kind], api.ErrFile)
	Expect(f.Version() == format.Version, api.ErrVersion)
	return f
}
