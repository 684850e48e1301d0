package storeone

import (
	"satchel/api"
	"satchel/blocks"
	"satchel/recfile"
	"satchel/tokens"
)

// The indices of the files, which are sorted by name.
const (
	blobsFile = iota
	keysFile
	labelsFile
	metaFile
	nodesFile
	propsFile
	relsFile
	typesFile
	fileCount
)

const (
	version = 1
	letters = "GSTR\x00" // what meta holds ahead of the version
)

// shape is what a store says of one of its files: its name, its kind if it holds records, and their size if no other layer says it.
type shape struct {
	name       string
	kind, size int
}

var shapes = [fileCount]shape{
	blobsFile:  {name: "blobs", kind: 8, size: 32},
	keysFile:   {name: "keys", kind: 3},
	labelsFile: {name: "labels", kind: 1},
	metaFile:   {name: "meta"},
	nodesFile:  {name: "nodes", kind: 4, size: 17},
	propsFile:  {name: "props", kind: 6, size: 20},
	relsFile:   {name: "rels", kind: 5, size: 31},
	typesFile:  {name: "types", kind: 2},
}

// store is what the files hold, but for meta, which is always the same.
type store struct {
	labels, types, keys       *tokens.Table
	nodes, rels, props, blobs *recfile.File
}

// open reads files that hold a store, as far as each of them can be judged on its own.
func open(files []api.File) *store {
	checkNames(files)
	checkMeta(files[metaFile].Data)
	s := &store{}
	s.labels = openTable(files, labelsFile)
	s.types = openTable(files, typesFile)
	s.keys = openTable(files, keysFile)
	s.nodes = openRecords(files, nodesFile)
	s.rels = openRecords(files, relsFile)
	s.props = openRecords(files, propsFile)
	s.blobs = openRecords(files, blobsFile)
	demand(blocks.Check(s.blobs))
	expect(s.nodes.Count() <= api.MaxNodes, api.ErrNodeId)
	expect(s.rels.Count() <= api.MaxRels, api.ErrRelId)
	return s
}

func checkNames(files []api.File) {
	expect(len(files) == fileCount, api.ErrFiles)
	for i, f := range files {
		expect(f.Name == shapes[i].name, api.ErrFiles)
	}
}

func checkMeta(meta []byte) {
	expect(len(meta) == len(letters)+1, api.ErrMeta)
	expect(string(meta[:len(letters)]) == letters, api.ErrMeta)
	expect(meta[len(letters)] == version, api.ErrVersion)
}

func openTable(files []api.File, file int) *tokens.Table {
	return must(tokens.Open(files[file].Data, shapes[file].kind, version))
}

func openRecords(files []api.File, file int) *recfile.File {
	f := must(recfile.Open(files[file].Data))
	expect(f.Kind() == shapes[file].kind && f.Size() == shapes[file].size, api.ErrFile)
	expect(f.Version() == version, api.ErrVersion)
	return f
}

func newRecords(file int) *recfile.File {
	return must(recfile.New(shapes[file].kind, version, shapes[file].size))
}

// files returns the files of a store.
func (s *store) files() []api.File {
	contents := [fileCount][]byte{
		blobsFile:  s.blobs.Bytes(),
		keysFile:   s.keys.Bytes(),
		labelsFile: s.labels.Bytes(),
		metaFile:   append([]byte(letters), version),
		nodesFile:  s.nodes.Bytes(),
		propsFile:  s.props.Bytes(),
		relsFile:   s.rels.Bytes(),
		typesFile:  s.types.Bytes(),
	}
	var files []api.File
	for i, data := range contents {
		files = append(files, api.File{Name: shapes[i].name, Data: data})
	}
	return files
}
