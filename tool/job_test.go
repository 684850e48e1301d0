package tool_test

import (
	"math"
	"slices"
	"strconv"
	"testing"
	"testing/synctest"

	"satchel/api"
	"satchel/fault"
	"satchel/staging"
	"satchel/tool"
)

// faultyDisks are lists of directories that are no disks, with their errors.
func faultyDisks() []struct {
	disk []api.Dir
	want api.Errno
} {
	return []struct {
		disk []api.Dir
		want api.Errno
	}{
		{[]api.Dir{dir("")}, api.ErrPath},
		{[]api.Dir{dir(".stage"), dir("A")}, api.ErrPath},
		{[]api.Dir{dir("a", file("x/", "1"))}, api.ErrPath},
		{[]api.Dir{dir("a"), dir("a")}, api.ErrOrder},
		{[]api.Dir{dir("b"), dir(".stage")}, api.ErrOrder},
		{[]api.Dir{dir("a", file("y", ""), file("x", "1"))}, api.ErrOrder},
		{[]api.Dir{dir("a", file("x", ""), file("x", "1")), dir("A")}, api.ErrOrder},
	}
}

// wholeDisks are disks, with a stage and without one.
func wholeDisks() [][]api.Dir {
	return [][]api.Dir{
		nil,
		{dir(".stage")},
		{dir(".stage", file("a", "junk"), file("b", ""), file("c", "1"))},
		{dir("-", file("s", "12")), dir(".stage", file(".stage", "x")), dir(".stage2", file("a", "3")), dir("stage")},
		{dir("d", file(".stage", "1"), file("b", "8")), dir("e")},
		fullDisk(),
	}
}

// P29.3
func TestRestart(t *testing.T) {
	for _, disk := range wholeDisks() {
		left, e := tool.Restart(disk)
		if e != api.OK || !sameDisk(left, without(disk, ".stage")) {
			t.Errorf("Restart of %s: %s, %v", told(disk), told(left), e)
		}
		again, e := tool.Restart(left)
		if e != api.OK || !sameDisk(again, left) {
			t.Errorf("Restart of %s: %s, %v", told(left), told(again), e)
		}
	}
	for _, c := range faultyDisks() {
		if left, e := tool.Restart(c.disk); e != c.want || len(left) > 0 {
			t.Errorf("Restart of %s: %s, %v, want %v", told(c.disk), told(left), e, c.want)
		}
	}
}

func isEmpty(o api.Outcome) bool { return len(o.Reports) == 0 && len(o.Seen) == 0 && len(o.After) == 0 }

// P29.4
func TestPlayOfNoDisk(t *testing.T) {
	for _, at := range []int{-1, 0, 1} {
		for _, c := range faultyDisks() {
			if o := tool.Play(api.Job{Disk: c.disk, Quota: 99, At: at, Lines: []string{"frob"}}); o.Code != c.want || !isEmpty(o) {
				t.Errorf("Play of %s: %v, want %v", told(c.disk), o, c.want)
			}
		}
		for _, quota := range []int{-1, math.MinInt} {
			if o := tool.Play(api.Job{Disk: []api.Dir{dir("A")}, Quota: quota, At: at, Lines: []string{"frob"}}); o.Code != api.ErrArg || !isEmpty(o) {
				t.Errorf("Play with quota %d: %v", quota, o)
			}
		}
	}
}

// P29.4
func TestPlayWithoutLines(t *testing.T) {
	for _, disk := range wholeDisks() {
		for _, quota := range []int{0, 3, math.MaxInt} {
			for _, at := range []int{-1, math.MinInt, 10, math.MaxInt} {
				o := tool.Play(api.Job{Disk: disk, Quota: quota, At: at})
				want := without(disk, ".stage")
				if o.Code != api.OK || len(o.Reports) != 0 || !sameDisk(o.Seen, want) || !sameDisk(o.After, want) {
					t.Errorf("Play on %s: %v, %s, %s", told(disk), o.Code, told(o.Seen), told(o.After))
				}
			}
		}
	}
}

// P29.4

// Each line as Run would execute it by itself, and as the model does.
func TestPlay(t *testing.T) {
	disk := fullDisk()
	lines := []string{
		"", "dump one d", "dump one old", "frob", "verify d", "restore d d v1", "restore d e v2", "migrate one e", "migrate e f", "verify old", "export old x csv", "export e x cypher", "import x old v1",
		"import csv.bad old v1", "verify .stage", "verify two.bad", "import csv y v2", "verify y", "dump  one d", "verify missing",
	}
	for _, quota := range []int{1 << 20, sizeOfAll(disk) + 1000, sizeOfAll(disk), 0} {
		o := tool.Play(api.Job{Disk: disk, Quota: quota, At: -1, Lines: lines})
		if o.Code != api.OK || len(o.Reports) != len(lines) {
			t.Fatalf("quota %d: %v, %d reports", quota, o.Code, len(o.Reports))
		}
		f := opened(t, disk, quota, -1)
		staging.Cleanup(f)
		left := without(disk, ".stage")
		for i, line := range lines {
			var want api.Report
			want, left = expected(left, quota, line)
			if !sameReport(o.Reports[i], want) {
				t.Errorf("quota %d, %q: %v, want %v", quota, line, o.Reports[i], want)
			}
			if r := tool.Run(f, line); !sameReport(r, want) {
				t.Errorf("quota %d, Run %q: %v, want %v", quota, line, r, want)
			}
		}
		if !sameDisk(o.Seen, left) || !sameDisk(o.After, left) || !sameDisk(f.View(), left) {
			t.Errorf("quota %d: seen %s, left %s, want %s", quota, told(o.Seen), told(o.After), told(left))
		}
	}
}

// P29.4

// The clean-up fails at its first change or later, or is done with the last one.
func TestPowerFailsInCleanup(t *testing.T) {
	disk := []api.Dir{dir(".stage", file("a", "1"), file("b", "22")), dir("s", file("script", "CREATE (n1);"))}
	lines := []string{"frob", "verify", "verify s", "frob"}
	for at := range 7 {
		for _, fate := range fates(4) {
			f := opened(t, disk, 99, at)
			wantCode := fault.Code(staging.Cleanup(f))
			if done := at >= 4; done != (wantCode == api.OK) || !done && wantCode != api.ErrPower {
				t.Fatalf("at %d: Cleanup returns %v", at, wantCode)
			}
			o := tool.Play(api.Job{Disk: disk, Quota: 99, At: at, Fate: fate, Lines: lines})
			if o.Code != wantCode || !sameDisk(o.After, f.Durable(fate)) || !sameDisk(o.Seen, f.View()) {
				t.Errorf("at %d, %v: %v, seen %s, left %s, want %v, %s", at, fate, o.Code, told(o.Seen), told(o.After), wantCode, told(f.Durable(fate)))
			}
			var want []api.Report
			if at >= 4 {
				want = []api.Report{failing(api.ErrWord, "line"), failing(api.ErrArg, "verify", "line"), {Kind: api.DirScript, Nodes: 1}, failing(api.ErrWord, "line")}
			}
			if at == 4 {
				want = append(want[:2], failing(api.ErrPower, "verify", "read"))
			}
			if !slices.EqualFunc(o.Reports, want, sameReport) {
				t.Errorf("at %d: %v, want %v", at, o.Reports, want)
			}
		}
	}
	// Without a stage nothing is to be removed, but the power is off.
	o := tool.Play(api.Job{Disk: disk[1:], Quota: 99, At: 0, Lines: lines})
	if o.Code != api.ErrPower || len(o.Reports) != 0 || len(o.Seen) != 0 || !sameDisk(o.After, disk[1:]) {
		t.Errorf("no stage: %v", o)
	}
}

// P2, P29.4, and the goroutines of layer 27: a bubble does not end while one is left in it.
func TestPlayTwice(t *testing.T) {
	disk := with(nil, made("one", api.DirOne, star(60)), dir(".stage", file("a", "1")))
	lines := []string{"migrate one two", "dump two a", "export two c csv", "restore a one v2", "verify one"}
	for _, quota := range []int{1 << 20, sizeOfAll(disk) + 15000, 0} {
		for at := -1; at < 130; at += 3 {
			job := api.Job{Disk: disk, Quota: quota, At: at, Fate: api.Fate{Names: 2, Keep: []bool{true}}, Lines: lines}
			var outcomes []api.Outcome
			for range 2 {
				synctest.Test(t, func(t *testing.T) { outcomes = append(outcomes, tool.Play(job)) })
			}
			a, b := outcomes[0], outcomes[1]
			if a.Code != b.Code || !slices.EqualFunc(a.Reports, b.Reports, sameReport) || !sameDisk(a.Seen, b.Seen) || !sameDisk(a.After, b.After) {
				t.Errorf("quota %d, at %d: %v, and then %v", quota, at, a.Reports, b.Reports)
			}
		}
	}
}

// P29.4
func TestManyLines(t *testing.T) {
	lines := slices.Repeat([]string{"import s d v1", "verify d", "frob"}, 500)
	o := tool.Play(api.Job{Disk: []api.Dir{dir("s", file("script", "CREATE (n1);"))}, Quota: 1 << 20, At: -1, Lines: lines})
	if len(o.Reports) != len(lines) {
		t.Fatalf("%d reports", len(o.Reports))
	}
	for i, r := range o.Reports {
		want := []api.Report{{Kind: api.DirOne, Nodes: 1}, {Kind: api.DirOne, Nodes: 1}, failing(api.ErrWord, "line")}[i%3]
		if !sameReport(r, want) {
			t.Errorf("line %s: %v, want %v", strconv.Itoa(i), r, want)
		}
	}
}
