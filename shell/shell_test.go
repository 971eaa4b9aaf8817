package shell_test

import (
	"fmt"
	"strings"
	"testing"

	"synod/api"
	"synod/core"
	"synod/node"
	"synod/shell"
	"synod/world"
)

// one is the options' line of the chapter's example, and oneOpts what it says.
const one = "world 1 2 10 1 8 4 4 100 0 0 4096 8 8 8 8 8 8 0"

func oneOpts() world.Opts {
	return world.Opts{Nodes: 1, Clients: 2, Node: node.Opts{
		Core:    core.Opts{Election: 10, Beat: 1, Batch: 8, Window: 4, Reads: 4, Pending: 100},
		Segment: 4096, Inbox: 8, Ticks: 8, Calls: 8, Jobs: 8, Applies: 8, Out: 8,
	}}
}

// lines lays lines below one another.
func lines(l ...string) string { return strings.Join(l, "\n") + "\n" }

// short is a text, or its ends, if it is long.
func short(s string) string {
	if len(s) <= 2000 {
		return fmt.Sprintf("%q", s)
	}
	return fmt.Sprintf("%q .. %q (%d bytes)", s[:500], s[len(s)-500:], len(s))
}

// is holds two things against each other as texts.
func is(t *testing.T, have, want any) {
	t.Helper()
	if a, b := fmt.Sprint(have), fmt.Sprint(want); a != b {
		t.Fatalf("have %s\nwant %s", short(a), short(b))
	}
}

// parses holds that a text says this script.
func parses(t *testing.T, script string, want shell.Script) {
	t.Helper()
	s, line, e := shell.Parse(script)
	if line != 0 || e != api.OK {
		t.Fatalf("%s: line %d, %d", short(script), line, e)
	}
	is(t, fmt.Sprintf("%+v", s), fmt.Sprintf("%+v", want))
}

// faulty holds that a text has this error in this line, for Parse and for Play.
func faulty(t *testing.T, script string, line int, want api.Errno) {
	t.Helper()
	s, n, e := shell.Parse(script)
	if n != line || e != want || s.Opts != (world.Opts{}) || len(s.Acts) != 0 || len(s.Lines) != 0 {
		t.Fatalf("Parse(%s): have %v, line %d, %d; want line %d, %d", short(script), s, n, e, line, want)
	}
	unplayed(t, script, line, want)
}

// unplayed holds that a text can't be played.
func unplayed(t *testing.T, script string, line int, want api.Errno) {
	t.Helper()
	if s, n, e := shell.Play(script); s != "" || n != line || e != want {
		t.Fatalf("Play(%s): have %s, line %d, %d; want line %d, %d", short(script), short(s), n, e, line, want)
	}
}

// plays holds that a text's transcript is this one.
func plays(t *testing.T, script, want string) {
	t.Helper()
	s, n, e := shell.Play(script)
	if n != 0 || e != api.OK {
		t.Fatalf("Play(%s): line %d, %d", short(script), n, e)
	}
	is(t, s, want)
}

// formats holds that a script's text is this one.
func formats(t *testing.T, s shell.Script, want string) {
	t.Helper()
	have, e := shell.Format(s)
	if e != api.OK {
		t.Fatalf("%v: %d", s, e)
	}
	is(t, have, want)
}

// unformatted holds that a script has no text.
func unformatted(t *testing.T, s shell.Script, want api.Errno) {
	t.Helper()
	if have, e := shell.Format(s); have != "" || e != want {
		t.Fatalf("have %s, %d; want %d", short(have), e, want)
	}
}

// The chapter's examples.

func TestP18_4_Example(t *testing.T) {
	plays(t, lines("# one node", one, "calm 1 10", "put 1 1 a x", "calm 1 1", "get 2 1 a"), `> calm 1 10
ok
sync 1 1
sync 1 2
apply 1 1
> put 1 1 a x
ok
> calm 1 1
ok
sync 1 3
sync 1 4
apply 1 2
back 1 1 done
> get 2 1 a
ok
history
1 1 put a x "" 2 3 done
2 0 get a "" "" 4 open
linear yes
`)
}

func TestP18_4_ExampleFaults(t *testing.T) {
	faulty(t, "", 0, api.ErrWord)
	faulty(t, "calm 1 1", 1, api.ErrWord)
	faulty(t, lines(one, "calm 1 1", "tick"), 3, api.ErrWords)
	unplayed(t, "world 8 2 10 1 8 4 4 100 0 0 4096 8 8 8 8 8 8 0", 1, api.ErrOpts)
}
