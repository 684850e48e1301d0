package tool_test

import (
	"math/rand"
	"slices"
	"strconv"
	"strings"
	"testing"

	"satchel/api"
	"satchel/tool"
)

// states are the disks before the first line, and behind each one, while the power stays on, and the reports.
func states(job api.Job) ([][]api.Dir, []api.Report) {
	disks := [][]api.Dir{without(job.Disk, ".stage")}
	var reports []api.Report
	for i, line := range job.Lines {
		r, left := expected(disks[i], job.Quota, line)
		disks, reports = append(disks, left), append(reports, r)
	}
	return disks, reports
}

// wantPowerReport finds out whether a report may be that of the line in which the power failed.
func wantPowerReport(t *testing.T, line string, r api.Report) {
	t.Helper()
	steps := []string{"cleanup", "mkdir", "create", "write", "sync", "names", "rename", "safe"}
	first := strings.Split(line, " ")[0]
	read := slices.Equal(r.Trail, []string{first, "read"})
	published := len(r.Trail) == 3 && r.Trail[0] == first && r.Trail[1] == "publish" && slices.Contains(steps, r.Trail[2])
	if r.Code != api.ErrPower || !read && !published || r.Kind != 0 || r.Nodes != 0 || r.Rels != 0 {
		t.Errorf("%q: %v", line, r)
	}
}

// wantReports compares reports with those of a job in which the power stays on, up to the one that tells that it failed. It returns how many lines were done.
func wantReports(t *testing.T, what string, job api.Job, got, want []api.Report) int {
	t.Helper()
	for i, r := range got {
		if sameReport(r, want[i]) {
			continue
		}
		wantPowerReport(t, job.Lines[i], r)
		if len(got) != i+1 {
			t.Errorf("%s: %d reports behind %v", what, len(got)-i-1, r)
		}
		return i
	}
	if len(got) != len(job.Lines) {
		t.Errorf("%s: %d reports", what, len(got))
	}
	return len(got)
}

// changes tells how many changes a job makes: if the power goes behind one more, something is seen in the end.
func changes(job api.Job) int {
	for job.At = 0; ; job.At += 16 {
		if len(tool.Play(job).Seen) == 0 {
			continue
		}
		for ; len(tool.Play(job).Seen) > 0; job.At-- {
		}
		return job.At
	}
}

// playAll lets the power fail at each change of a job, with each of the fates.
func playAll(t *testing.T, job api.Job, list []api.Fate) {
	t.Helper()
	disks, reports := states(job)
	end := changes(job)
	for job.At = 0; job.At <= end+1; job.At++ {
		for _, job.Fate = range list {
			what := job.Lines[0] + ", at " + strconv.Itoa(job.At) + ", names " + strconv.Itoa(job.Fate.Names)
			o := tool.Play(job)
			if o.Code == api.ErrPower && len(o.Reports) == 0 {
				wantRestart(t, what, o.After, disks[:1])
				continue
			}
			done := wantReports(t, what, job, o.Reports, reports)
			if job.At > end {
				if done != len(job.Lines) || !sameDisk(o.Seen, disks[done]) || !sameDisk(o.After, disks[done]) {
					t.Errorf("%s: %v, %s", what, o.Reports, told(o.After))
				}
				continue
			}
			if len(o.Seen) > 0 {
				t.Errorf("%s: %s is seen", what, told(o.Seen))
			}
			// A line that could not even read has changed nothing.
			may := disks[done:min(done+2, len(disks))]
			if last := o.Reports[len(o.Reports)-1]; slices.Contains(last.Trail, "read") {
				may = may[:1]
			}
			wantRestart(t, what, o.After, may)
		}
	}
}

// wantRestart finds out whether a disk becomes one of some by a Restart.
func wantRestart(t *testing.T, what string, after []api.Dir, want [][]api.Dir) {
	t.Helper()
	left, e := tool.Restart(after)
	if e != api.OK || !slices.ContainsFunc(want, func(disk []api.Dir) bool { return sameDisk(disk, left) }) {
		t.Errorf("%s: %s becomes %s, %v", what, told(after), told(left), e)
	}
}

// P29.5, P29.4

// Each command by itself, over a directory that is there and one that isn't.
func TestPowerFailsInALine(t *testing.T) {
	disk := with(nil, made("v1", api.DirOne, sample()), made("v2", api.DirTwo, sample()), made("archive", api.DirArchive, sample()), made("csv", api.DirTable, sample()), made("cypher", api.DirScript, sample()), dir("old", file("x", "1"), file("y", "22")))
	for _, f := range forms {
		src, _, _ := strings.Cut(f.accepts, " ")
		for i, dst := range []string{"new", "old"} {
			line := strings.NewReplacer("SRC", src, "DST", dst).Replace(f.words)
			job := api.Job{Disk: disk, Quota: 1 << 20, Lines: []string{line}}
			if i == 1 {
				job.Disk = with(disk, dir(".stage", file("a", "junk")))
			}
			playAll(t, job, fates(12))
		}
	}
}

// P29.5, P29.4

// Lines that go on from each other, with some that fail.
func TestPowerFailsInAJob(t *testing.T) {
	disk := with(nil, dir("s", file("script", "CREATE (n0:A {k: 1});\nCREATE (n1);\nCREATE (n0)-[r0:T]->(n1);")), dir(".stage", file("a", "1"), file("b", "")), dir("e", file("x", "1")))
	if r, _ := expected(disk, 1<<20, "verify s"); r.Rels != 1 {
		t.Fatalf("%v", r)
	}
	few := []api.Fate{{Names: -1}, {Names: 1}, {Names: 3, Keep: []bool{true}}, {Names: 9, Keep: []bool{false, true}}, everything()}
	lines := []string{"import s d v1", "frob", "migrate d e", "migrate e d", "verify e", "dump d a", "dump d d", "restore a s v2", "export s d csv", "import d s v1", "verify d"}
	playAll(t, api.Job{Disk: disk, Quota: 1 << 20, Lines: lines}, few)
	// Not all of them have room, and the stage is removed again.
	playAll(t, api.Job{Disk: disk, Quota: 1000, Lines: lines}, few)
	playAll(t, api.Job{Disk: disk, Quota: 200, Lines: []string{"import s d v1", "import s d v2", "verify s"}}, few)
}

// randomJob is one on a disk with a few directories, of which most stand for the graph. Most of its lines end well.
func randomJob(rng *rand.Rand, g api.Graph) api.Job {
	places := []string{"a", "b", "c", "d"}
	disk := []api.Dir{made("e", 1+rng.Intn(5), g)}
	for _, name := range append(places, ".stage") {
		if kind := rng.Intn(8); kind > 5 {
			disk = with(disk, dir(name, file("x", "junk")))
		} else if kind > 0 {
			disk = with(disk, made(name, kind, g))
		}
	}
	job := api.Job{Disk: disk, Quota: sizeOfAll(disk) + rng.Intn(8000)}
	for range 1 + rng.Intn(6) {
		var line string
		for range 8 {
			line = strings.NewReplacer("SRC", places[rng.Intn(4)], "DST", places[rng.Intn(4)]).Replace(forms[rng.Intn(len(forms))].words)
			r, left := expected(disk, job.Quota, line)
			if r.Code == api.OK {
				disk = left
				break
			}
		}
		job.Lines = append(job.Lines, line)
	}
	return job
}

// P29.5, P29.4, P29.2
func TestPowerFailsInRandomJobs(t *testing.T) {
	rng := rand.New(rand.NewSource(5))
	for i := range 150 {
		job := randomJob(rng, randomGraph(rng))
		var list []api.Fate
		for range 3 {
			fate := api.Fate{Names: rng.Intn(14)}
			for range rng.Intn(5) {
				fate.Keep = append(fate.Keep, rng.Intn(2) == 0)
			}
			list = append(list, fate)
		}
		playAll(t, job, list)
		if t.Failed() {
			t.Fatalf("job %d: %s, %q, quota %d", i, told(job.Disk), job.Lines, job.Quota)
		}
	}
}

// P29.5

// Directly after the rename, the names decide between the old disk and the new one.
func TestPowerFailsAfterTheRename(t *testing.T) {
	disk := []api.Dir{dir("d", file("x", "1")), dir("s", file("script", "CREATE (n1);"))}
	job := api.Job{Disk: disk, Quota: 1 << 20, Lines: []string{"import s d v1"}}
	job.At = changes(job) - 1
	_, want := expected(disk, job.Quota, job.Lines[0])
	for names, left := range [][]api.Dir{disk, want, want} {
		job.Fate = api.Fate{Names: names}
		o := tool.Play(job)
		if len(o.Reports) != 1 || !sameReport(o.Reports[0], failing(api.ErrPower, "import", "publish", "safe")) {
			t.Errorf("%v", o.Reports)
		}
		wantRestart(t, "names "+strconv.Itoa(names), o.After, [][]api.Dir{left})
	}
	// The change behind it ends the line, even if the power goes with it.
	job.At++
	job.Fate = api.Fate{}
	o := tool.Play(job)
	if len(o.Reports) != 1 || !sameReport(o.Reports[0], api.Report{Kind: api.DirOne, Nodes: 1}) || len(o.Seen) > 0 {
		t.Errorf("%v, seen %s", o.Reports, told(o.Seen))
	}
	wantRestart(t, "at the end", o.After, [][]api.Dir{want})
}

// P29.4, P29.5

// A line that fails by itself tells its own number, even if the power goes while the stage is removed; the next line finds it off.
func TestPowerFailsWhileTheStageIsRemoved(t *testing.T) {
	disk := []api.Dir{dir("s", file("script", "CREATE (n1);"))}
	lines := []string{"import s d v1", "frob", "verify s", "frob"}
	both := 0
	for at := 1; ; at++ {
		o := tool.Play(api.Job{Disk: disk, Quota: 60, At: at, Fate: everything(), Lines: lines})
		wantRestart(t, "at "+strconv.Itoa(at), o.After, [][]api.Dir{disk})
		quota := failing(api.ErrQuota, "import", "publish", "write")
		switch {
		case len(o.Seen) > 0:
			if len(o.Reports) != 4 || !sameReport(o.Reports[0], quota) || both < 3 {
				t.Errorf("%v, %d times both", o.Reports, both)
			}
			return
		case sameReport(o.Reports[0], quota):
			both++
			if !slices.EqualFunc(o.Reports[1:], []api.Report{failing(api.ErrWord, "line"), failing(api.ErrPower, "verify", "read")}, sameReport) {
				t.Errorf("at %d: %v", at, o.Reports)
			}
		default:
			wantPowerReport(t, lines[0], o.Reports[0])
		}
	}
}
