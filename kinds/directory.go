package kinds

import (
	"slices"

	"satchel/api"
	"satchel/archive"
	"satchel/cypher"
	"satchel/storeone"
	"satchel/storetwo"
	"satchel/table"
)

const (
	metaFile    = "meta"
	archiveFile = "archive"
	nodesFile   = "nodes.csv"
	relsFile    = "rels.csv"
	scriptFile  = "script"

	// metaTwo is what a store of version 2 has in its file meta.
	metaTwo = "GSTR\x00\x02"
)

// directory is a kind of directories. No files fit two kinds.
type directory interface {
	kind() int
	name() string
	fits(files []api.File) bool
	// load gives the graph of files that fit.
	load(files []api.File) (api.Graph, api.Errno)
	create(g api.Graph) ([]api.File, api.Errno)
	bound(s sizes) int
}

func directories() []directory {
	return []directory{
		storeOne{label{api.DirOne, "v1"}},
		storeTwo{label{api.DirTwo, "v2"}},
		archived{listed{label{api.DirArchive, "archive"}, []string{archiveFile}}},
		tables{listed{label{api.DirTable, "csv"}, []string{nodesFile, relsFile}}},
		script{listed{label{api.DirScript, "cypher"}, []string{scriptFile}}},
	}
}

// label is what a kind is known by.
type label struct {
	number int
	word   string
}

func (l label) kind() int { return l.number }

func (l label) name() string { return l.word }

// listed is a kind whose directories have exactly the files of a list.
type listed struct {
	label
	names []string
}

func (l listed) fits(files []api.File) bool {
	return slices.EqualFunc(files, l.names, func(f api.File, name string) bool { return f.Name == name })
}

func (l listed) bound(s sizes) int {
	return 100 + 600*s.nodes + 600*s.rels + 100*s.props + 100*s.names + 8*s.weight
}

// meta gives the contents of the first file of that name, and whether there is one.
func meta(files []api.File) ([]byte, bool) {
	i := slices.IndexFunc(files, func(f api.File) bool { return f.Name == metaFile })
	if i < 0 {
		return nil, false
	}
	return files[i].Data, true
}

type storeOne struct{ label }

// fits also takes what no version has in its file meta: layer 14 tells what is wrong there.
func (storeOne) fits(files []api.File) bool {
	data, found := meta(files)
	return found && string(data) != metaTwo
}

func (storeOne) load(files []api.File) (api.Graph, api.Errno) { return storeone.Denote(files) }

func (storeOne) create(g api.Graph) ([]api.File, api.Errno) { return storeone.Build(g) }

func (storeOne) bound(s sizes) int {
	return 1100 + 17*s.nodeRecords + 31*s.relRecords + 52*s.props + 42*s.names + 2*s.weight
}

type storeTwo struct{ label }

func (storeTwo) fits(files []api.File) bool {
	data, found := meta(files)
	return found && string(data) == metaTwo
}

func (storeTwo) load(files []api.File) (api.Graph, api.Errno) { return storetwo.Denote(files) }

func (storeTwo) create(g api.Graph) ([]api.File, api.Errno) { return storetwo.Build(g) }

func (storeTwo) bound(s sizes) int {
	return 1100 + 66*s.nodeRecords + 109*s.relRecords + 38*s.props + 42*s.names + 2*s.weight
}

type archived struct{ listed }

func (archived) load(files []api.File) (api.Graph, api.Errno) { return archive.Read(files[0].Data) }

func (archived) create(g api.Graph) ([]api.File, api.Errno) {
	data, e := archive.Write(g)
	if e != api.OK {
		return nil, e
	}
	return []api.File{{Name: archiveFile, Data: data}}, api.OK
}

type tables struct{ listed }

func (tables) load(files []api.File) (api.Graph, api.Errno) {
	return table.Parse(string(files[0].Data), string(files[1].Data))
}

func (tables) create(g api.Graph) ([]api.File, api.Errno) {
	nodes, rels, e := table.Print(g)
	if e != api.OK {
		return nil, e
	}
	return []api.File{{Name: nodesFile, Data: []byte(nodes)}, {Name: relsFile, Data: []byte(rels)}}, api.OK
}

type script struct{ listed }

func (script) load(files []api.File) (api.Graph, api.Errno) {
	return cypher.Parse(string(files[0].Data))
}

func (script) create(g api.Graph) ([]api.File, api.Errno) {
	text, e := cypher.Print(g)
	if e != api.OK {
		return nil, e
	}
	return []api.File{{Name: scriptFile, Data: []byte(text)}}, api.OK
}
