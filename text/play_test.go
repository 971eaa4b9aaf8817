package text_test

import (
	"math/rand/v2"
	"strings"
	"testing"

	"synod/api"
	"synod/text"
	"synod/world"
)

// transcript is what the acts of these lines tell, one behind the other, in a world of the first line; and the history.
func transcript(t *testing.T, script string) string {
	t.Helper()
	first, rest, _ := strings.Cut(script, "\n")
	o, e := text.ParseOpts(first)
	if e != api.OK {
		t.Fatalf("%s: %d", first, e)
	}
	w, e := world.New(o)
	if e != api.OK {
		t.Fatalf("%v: %d", o, e)
	}
	var b strings.Builder
	for s := range strings.Lines(rest) {
		a, e := text.ParseAct(strings.TrimSuffix(s, "\n"))
		if e != api.OK {
			t.Fatalf("%s: %d", s, e)
		}
		plain, e := text.FormatAct(a)
		if e != api.OK {
			t.Fatalf("%v: %d", a, e)
		}
		b.WriteString("> " + plain + "\n" + strings.Join(text.FormatTold(w.Do(a)), "\n") + "\n")
	}
	for _, x := range w.History() {
		b.WriteString(text.FormatOp(x) + "\n")
	}
	return b.String()
}

// The example of chapter 15, in words.
func TestP17_5_AWorldInWords(t *testing.T) {
	is(t, transcript(t, `world 1 2 10 1 8 4 4 100 0 0 4096 8 8 8 8 8 8 0
calm 1 9
calm   1 1
put 1 1 a x
put 1 1 a x
give 2
get 3 1 a
calm 1 1
get 2 1 a
calm 1 1
crash 1 0
delete 2 1 a
start 1 0
pick 1 sync
`), `> calm 1 9
ok
> calm 1 1
ok
sync 1 1
sync 1 2
apply 1 1
> put 1 1 a x
ok
> put 1 1 a x
err 9
> give 2
err 9
> get 3 1 a
err 8
> calm 1 1
ok
sync 1 3
sync 1 4
apply 1 2
back 1 1 done
> get 2 1 a
ok
> calm 1 1
ok
back 2 1 done x
> crash 1 0
ok
> delete 2 1 a
ok
back 2 1 down
> start 1 0
ok
> pick 1 sync
no
1 1 put a x "" 3 7 done
2 0 get a "" "" 8 9 done x
2 1 delete a "" "" 11 open
`)
}

// Acts that went through their lines tell what they tell themselves.
func TestP17_7_WorldsThroughLines(t *testing.T) {
	r := rand.New(rand.NewPCG(17, 73))
	o, e := text.ParseOpts("world 3 2 10 1 8 4 4 100 6 2 4096 12 8 8 8 8 12 0")
	if e != api.OK {
		t.Fatal(e)
	}
	seen := map[string]int{}
	for range 30 {
		var acts, read []world.Act
		for range 200 {
			a := anyAct(r)
			a.Node, a.Client = a.Node&3, a.Client&3
			a.N, a.M = a.N&15, a.M&1
			if a.Kind == world.WPick {
				a.N = 1 + a.N%9
			}
			a = named(t, a)
			s, _ := text.FormatAct(a)
			b, e := text.ParseAct(s)
			if e != api.OK {
				t.Fatalf("%s: %d", s, e)
			}
			acts, read = append(acts, a), append(read, b)
		}
		told, history, _ := world.Run(o, acts)
		again, same, _ := world.Run(o, read)
		for i := range told {
			l := text.FormatTold(told[i])
			is(t, strings.Join(text.FormatTold(again[i]), "\n"), strings.Join(l, "\n"))
			for _, s := range l {
				word, _, _ := strings.Cut(s, " ")
				seen[word]++
			}
		}
		for i := range history {
			is(t, text.FormatOp(same[i]), text.FormatOp(history[i]))
		}
	}
	for _, word := range strings.Fields("ok no err send sync apply end back") {
		if seen[word] == 0 {
			t.Errorf("%s is never told: %v", word, seen)
		}
	}
	if seen["?"] > 0 {
		t.Errorf("%v", seen)
	}
}

// named lets an act keep only what its line names.
func named(t *testing.T, a world.Act) world.Act {
	t.Helper()
	c, e := modelLine(a)
	if e != api.OK {
		t.Fatalf("%v: %d", a, e)
	}
	b := c.act
	for _, name := range strings.Fields(c.line)[1:] {
		field(&b, name).Set(field(&a, name))
	}
	return b
}
