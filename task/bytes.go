package task

import (
	"primer/api"
	"primer/marks"
	"primer/octets"
)

// Put: a task's bytes.
func Put(t Task) string {
	var o octets.Out
	o.Text(t.Name)
	putWords(&o, t.Yes)
	putWords(&o, t.No)
	o.Bool(t.Clear)
	o.Text(marks.Put(t.Weight))
	s, _ := o.Bytes()
	return s
}

// Get the task of bytes.
func Get(s string) (Task, api.Errno) {
	in := octets.Open(s)
	t := Task{Name: in.Text()}
	var yes, no bool
	t.Yes, yes = getWords(in)
	t.No, no = getWords(in)
	if !yes || !no {
		return Task{}, api.ErrForm
	}
	t.Clear = in.Bool()
	weight, wrong := marks.Get(in.Text())
	t.Weight = weight
	if err := in.Err(); err != api.OK {
		return Task{}, err
	}
	if wrong != api.OK || !Good(t) {
		return Task{}, api.ErrForm
	}
	if err := in.End(); err != api.OK {
		return Task{}, err
	}
	return t, api.OK
}

func putWords(o *octets.Out, words [][]string) {
	o.Int(len(words))
	for _, texts := range words {
		o.Texts(texts)
	}
}

// getWords: false, where as many are told as there can't be. Once there was an error none are told.
func getWords(in *octets.In) ([][]string, bool) {
	count := in.Int()
	if count < 0 || count > api.MaxWord {
		return nil, false
	}
	var words [][]string
	for range count {
		words = append(words, in.Texts(api.MaxWord))
	}
	return words, true
}
