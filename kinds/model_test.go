package kinds_test

import (
	"satchel/api"
	"satchel/archive"
	"satchel/cypher"
	"satchel/graph"
	"satchel/storeone"
	"satchel/storetwo"
	"satchel/table"
)

// The model, after the chapter. What the layers below are for it asks them themselves.

var words = map[int]string{1: "v1", 2: "v2", 3: "archive", 4: "csv", 5: "cypher"}

// kindOf is the kind of files.
func kindOf(files []api.File) int {
	for _, f := range files {
		if f.Name == "meta" {
			if len(f.Data) == 6 && string(f.Data[:4]) == "GSTR" && f.Data[4] == 0 && f.Data[5] == 2 {
				return 2
			}
			return 1
		}
	}
	names := ""
	for _, f := range files {
		names += f.Name + "\n"
	}
	switch {
	case len(files) == 1 && names == "archive\n":
		return 3
	case len(files) == 2 && names == "nodes.csv\nrels.csv\n":
		return 4
	case len(files) == 1 && names == "script\n":
		return 5
	}
	return 0
}

// read gives what Load answers.
func read(files []api.File) (g api.Graph, kind int, e api.Errno) {
	kind = kindOf(files)
	switch kind {
	case 0:
		e = api.ErrFiles
	case 1:
		g, e = storeone.Denote(files)
	case 2:
		g, e = storetwo.Denote(files)
	case 3:
		g, e = archive.Read(files[0].Data)
	case 4:
		g, e = table.Parse(string(files[0].Data), string(files[1].Data))
	case 5:
		g, e = cypher.Parse(string(files[0].Data))
	}
	if e != api.OK {
		g = api.Graph{}
	}
	return g, kind, e
}

// write gives what Make answers.
func write(kind int, g api.Graph) ([]api.File, api.Errno) {
	if kind < 1 || kind > 5 {
		return nil, api.ErrArg
	}
	if e, _ := graph.Check(g); e != api.OK {
		return nil, e
	}
	switch kind {
	case 1:
		return storeone.Build(g)
	case 2:
		return storetwo.Build(g)
	case 3:
		data, e := archive.Write(g)
		return []api.File{{Name: "archive", Data: data}}, e
	case 4:
		nodes, rels, e := table.Print(g)
		return []api.File{{Name: "nodes.csv", Data: []byte(nodes)}, {Name: "rels.csv", Data: []byte(rels)}}, e
	}
	text, e := cypher.Print(g)
	return []api.File{{Name: "script", Data: []byte(text)}}, e
}

// bound gives what Bound answers.
func bound(kind int, g api.Graph) int {
	if e, _ := graph.Check(g); e != api.OK {
		return 0
	}
	N, R, P := 0, 0, 0
	labels, types, keys := map[string]bool{}, map[string]bool{}, map[string]bool{}
	note := func(props []api.Prop) {
		P += len(props)
		for _, p := range props {
			keys[p.Key] = true
		}
	}
	for _, n := range g.Nodes {
		N = max(N, n.Id+1)
		for _, l := range n.Labels {
			labels[l] = true
		}
		note(n.Props)
	}
	for _, r := range g.Rels {
		R = max(R, r.Id+1)
		types[r.Type] = true
		note(r.Props)
	}
	T, W := len(labels)+len(types)+len(keys), graph.Weight(g)
	switch kind {
	case 1:
		return 1100 + 17*N + 31*R + 52*P + 42*T + 2*W
	case 2:
		return 1100 + 66*N + 109*R + 38*P + 42*T + 2*W
	case 3, 4, 5:
		return 100 + 600*len(g.Nodes) + 600*len(g.Rels) + 100*P + 100*T + 8*W
	}
	return 0
}
