package text

import (
	"synod/api"
	"synod/world"
)

// ParseAct is the act of a line.
func ParseAct(line string) (world.Act, api.Errno) {
	first, words, err := cutFirst(line)
	if err != api.OK {
		return world.Act{}, err
	}
	f, ok := formOfWord(first)
	switch {
	case !ok:
		return world.Act{}, api.ErrWord
	case len(words) != len(f.places):
		return world.Act{}, api.ErrWords
	}
	a := f.says
	for i, p := range f.places {
		if err := p.read(&a, words[i]); err != api.OK {
			return world.Act{}, err
		}
	}
	return a, api.OK
}

// formOfWord is the form with this first word.
func formOfWord(word string) (form, bool) {
	for _, f := range forms() {
		if f.word == word {
			return f, true
		}
	}
	return form{}, false
}

// FormatAct is the line of an act.
func FormatAct(a world.Act) (string, api.Errno) {
	f, err := formOfAct(a)
	if err != api.OK {
		return "", err
	}
	if err := f.check(a); err != api.OK {
		return "", err
	}
	// A word is no shorter than what it holds: what is too long anyhow needs no quoting.
	if len(a.Key)+len(a.Value)+len(a.Old) > api.MaxLine {
		return "", api.ErrLong
	}
	line := f.line(a)
	if len(line) > api.MaxLine {
		return "", api.ErrLong
	}
	return line, api.OK
}

// formOfAct is the form of an act's line.
func formOfAct(a world.Act) (form, api.Errno) {
	err := api.ErrKind
	for _, f := range forms() {
		switch {
		case f.says.Kind != a.Kind:
		case f.fits(a):
			return f, api.OK
		default:
			err = api.ErrWord
		}
	}
	return form{}, err
}

// fits tells, where its kind has several forms, whether an act has this one. (The Op of a kind that has but one isn't asked
// for here: it is a field that the line doesn't name.)
func (f form) fits(a world.Act) bool {
	switch a.Kind {
	case world.WCall:
		return a.Op == f.says.Op
	case world.WLink:
		return (a.M == 0) == (f.says.M == 0)
	}
	return true
}

// check tells what is wrong with an act that is to have a line of this form.
func (f form) check(a world.Act) api.Errno {
	switch {
	case f.rest(a) != f.says:
		return api.ErrForm
	case a.Kind == world.WPick && !picks().has(a.N):
		return api.ErrWord
	case a.Kind == world.WLink && a.M != f.says.M:
		return api.ErrRange
	}
	for _, p := range f.places {
		if p.number != nil && !isNumber(*p.number(&a)) {
			return api.ErrRange
		}
	}
	return api.OK
}

// rest is an act without what the words of its line tell: just what the first one says, if the line names all that is in it.
func (f form) rest(a world.Act) world.Act {
	for _, p := range f.places {
		p.clear(&a)
	}
	if a.Kind == world.WLink {
		a.M = f.says.M // named by the first word, whatever it is
	}
	return a
}

// line is the line of an act that may have one.
func (f form) line(a world.Act) string {
	words := []string{f.word}
	for _, p := range f.places {
		words = append(words, p.show(a))
	}
	return join(words...)
}
