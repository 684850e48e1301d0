package tool

import (
	"slices"

	"satchel/api"
	"satchel/kinds"
)

// maxWords is how many words the longest lines have.
const maxWords = 4

// command is what a line's first word stands for.
type command struct {
	// accept gives the error of a kind that SRC has.
	accept func(kind int) api.Errno
	// creates are the kinds that DST may get. If there are several, the line's last word names one.
	creates []int
}

func commands() map[string]command {
	store := only(api.DirOne, api.DirTwo)
	return map[string]command{
		"dump":    {store, []int{api.DirArchive}},
		"restore": {only(api.DirArchive), []int{api.DirOne, api.DirTwo}},
		"export":  {store, []int{api.DirTable, api.DirScript}},
		"import":  {only(api.DirTable, api.DirScript), []int{api.DirOne, api.DirTwo}},
		"migrate": {older, []int{api.DirTwo}},
		"verify":  {every, nil},
	}
}

// length tells how many words a line has: DST is one of them only if something is created, and its kind only if there is a choice.
func (c command) length() int {
	return 2 + min(len(c.creates), 2)
}

// target gives the kind that a line with that last word creates.
func (c command) target(last string) (int, api.Errno) {
	switch len(c.creates) {
	case 0:
		return api.DirNone, api.OK
	case 1:
		return c.creates[0], api.OK
	}
	kind, found := kinds.Named(last)
	if !found || !slices.Contains(c.creates, kind) {
		return api.DirNone, api.ErrArg
	}
	return kind, api.OK
}

// only accepts some kinds.
func only(kinds ...int) func(int) api.Errno {
	return func(kind int) api.Errno {
		if !slices.Contains(kinds, kind) {
			return api.ErrKind
		}
		return api.OK
	}
}

// older accepts a store that is not of the last version yet.
func older(kind int) api.Errno {
	if kind == api.DirTwo {
		return api.ErrVersion
	}
	return only(api.DirOne)(kind)
}

// every accepts all kinds.
func every(kind int) api.Errno {
	if kind == api.DirNone {
		return api.ErrKind
	}
	return api.OK
}
