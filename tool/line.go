package tool

import (
	"satchel/api"
	"satchel/fault"
	"satchel/kinds"
	"satchel/staging"
	"satchel/vfs"
)

// step is a step of a line.
type step struct {
	op string
	do func() error
}

// line is a line in progress. Each step finds what those after it need.
type line struct {
	command
	fs    *vfs.FS
	words []string

	dirs     []string // SRC, and DST if the command creates something
	from, to int      // the kinds of the two
	files    []api.File
	graph    api.Graph
}

func (l *line) steps() []step {
	return []step{
		{"line", l.parse},
		{"paths", l.checkPaths},
		{"read", l.read},
		{"kind", l.checkKind},
		{"load", l.load},
		{"publish", l.publish},
	}
}

func (l *line) run() error {
	for _, s := range l.steps() {
		if err := s.do(); err != nil {
			return fault.Wrap(s.op, 0, err)
		}
	}
	return nil
}

func (l *line) parse() error {
	count := len(l.words)
	if count != l.length() {
		return fault.Of(api.ErrArg)
	}
	to, e := l.target(l.words[count-1])
	if e != api.OK {
		return fault.Of(e)
	}
	l.dirs, l.to = l.words[1:min(count, 3)], to
	return nil
}

func (l *line) checkPaths() error {
	for _, dir := range l.dirs {
		if !vfs.GoodPath(dir) || dir == api.Stage {
			return fault.Of(api.ErrPath)
		}
	}
	if len(l.dirs) == 2 && l.dirs[0] == l.dirs[1] {
		return fault.Of(api.ErrSame)
	}
	return nil
}

func (l *line) read() error {
	names, e := l.fs.List(l.dirs[0])
	if e != api.OK {
		return fault.Of(e)
	}
	for _, name := range names {
		data, e := l.fs.Read(l.dirs[0], name)
		if e != api.OK {
			return fault.Of(e)
		}
		l.files = append(l.files, api.File{Name: name, Data: data})
	}
	return nil
}

func (l *line) checkKind() error {
	l.from = kinds.Sniff(l.files)
	return fault.Of(l.accept(l.from))
}

func (l *line) load() error {
	g, _, e := kinds.Load(l.files)
	l.graph = g
	return fault.Of(e)
}

func (l *line) publish() error {
	if l.to == api.DirNone {
		return nil
	}
	files, e := kinds.Make(l.to, l.graph)
	if e != api.OK {
		return fault.Of(e)
	}
	return staging.Publish(l.fs, l.dirs[1], files)
}

func (l *line) report() api.Report {
	kind := l.to
	if kind == api.DirNone {
		kind = l.from
	}
	return api.Report{Code: api.OK, Kind: kind, Nodes: len(l.graph.Nodes), Rels: len(l.graph.Rels)}
}
