package staging_test

import (
	"reflect"
	"slices"
	"testing"

	"satchel/api"
	"satchel/staging"
)

// roomy is a copy whose slices have spare capacity, in which something stands.
func roomy(files []api.File) []api.File {
	c := make([]api.File, len(files)+2)
	for i := range c {
		c[i] = file("spare", "room")
	}
	for i, x := range files {
		c[i] = api.File{Name: x.Name, Data: append(slices.Clone(x.Data), "spare"...)[:len(x.Data)]}
	}
	return c[:len(files)]
}

// whole is all that stands in the files, up to the slices' capacities.
func whole(files []api.File) []api.File {
	all := slices.Clone(files[:cap(files)])
	for i := range all {
		all[i].Data = slices.Clone(all[i].Data[:cap(all[i].Data)])
	}
	return all
}

func smudge(files []api.File) {
	files = files[:cap(files)]
	for i := range files {
		data := files[i].Data[:cap(files[i].Data)]
		for j := range data {
			data[j] ^= 0xff
		}
		files[i] = file("odd", "odd")
	}
}

// P28.6
func TestArguments(t *testing.T) {
	for _, c := range cases() {
		_, end := expected(c.disk, c.quota, c.dst, c.files)
		for at := -1; at < 30; at++ {
			files := roomy(c.files)
			before := whole(files)
			f := opened(t, c.disk, c.quota, at)
			err := staging.Publish(f, c.dst, files)
			if !reflect.DeepEqual(whole(files), before) {
				t.Errorf("%s, at %d: the files were changed", c.name, at)
			}
			left := told(f.Durable(everything()))
			smudge(files)
			if s := told(f.Durable(everything())); s != left {
				t.Errorf("%s, at %d: %s became %s", c.name, at, left, s)
			}
			if at < 0 || err == nil {
				wantLeft(t, c.name, f, end)
			}
		}
	}
}

// Two file systems into which the same files were published.
func TestFileSystemsAreIndependent(t *testing.T) {
	files := []api.File{file("a", "12")}
	f, g := opened(t, nil, 99, -1), opened(t, nil, 99, -1)
	if err := staging.Publish(f, "d", files); err != nil {
		t.Fatal(err)
	}
	if err := staging.Publish(g, "d", files); err != nil {
		t.Fatal(err)
	}
	f.Write("d", "a", []byte("3"))
	f.View()[0].Files[0].Data[0] = 'x'
	wantSafe(t, "the other one", g, []api.Dir{dir("d", file("a", "12"))})
	if string(files[0].Data) != "12" {
		t.Errorf("the file became %q", files[0].Data)
	}
}
