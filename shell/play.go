package shell

import (
	"strconv"
	"strings"

	"synod/api"
	"synod/lin"
	"synod/text"
	"synod/world"
)

// Play plays a script's text.
func Play(script string) (string, int, api.Errno) {
	s, line, err := Parse(script)
	if err != api.OK {
		return "", line, err
	}
	first := firstLine(script)
	w, err := world.New(s.Opts)
	if err != api.OK {
		return "", first, err
	}
	t := &transcript{line: first}
	if err := t.write(w, s); err != api.OK {
		return "", t.line, err
	}
	return t.String(), 0, api.OK
}

// transcript is what is told of a script.
type transcript struct {
	strings.Builder
	line int // the number of the last line that was come to
}

// failure is an error on its way from within to the face.
type failure struct{ err api.Errno }

// must gives a transcript up at an error.
func must(err api.Errno) {
	if err != api.OK {
		panic(failure{err})
	}
}

// write plays a script, and tells the error that the transcript was given up at. A panic of any other kind is none of its
// own, and goes on.
func (t *transcript) write(w *world.World, s Script) (err api.Errno) {
	defer func() {
		switch x := recover().(type) {
		case nil:
		case failure:
			err = x.err
		default:
			panic(x)
		}
	}()
	for i, a := range s.Acts {
		t.line = s.Lines[i]
		t.act(w, a)
	}
	t.end(w.History())
	return api.OK
}

// act does an act, and tells it.
func (t *transcript) act(w *world.World, a world.Act) {
	// A line may be short enough where it is read, and too long as it is written: there is more in quotes.
	line, err := text.FormatAct(a)
	must(err)
	t.tell("> " + line)
	t.tell(text.FormatTold(w.Do(a))...)
}

// end tells the history, and its judgement.
func (t *transcript) end(history []api.Op) {
	t.tell("history")
	for _, x := range history {
		t.tell(text.FormatOp(x))
	}
	t.tell("linear " + judgement(history))
}

// judgement is what is said of a history.
func judgement(history []api.Op) string {
	linear, err := lin.Check(history)
	switch {
	case err != api.OK:
		return "err " + strconv.Itoa(int(err))
	case linear:
		return "yes"
	}
	return "no"
}

// tell puts lines behind the others, as long as there is room for them.
func (t *transcript) tell(lines ...string) {
	for _, line := range lines {
		if t.Len()+len(line)+len(newline) > api.MaxTell {
			must(api.ErrLong)
		}
		t.WriteString(line)
		t.WriteString(newline)
	}
}
