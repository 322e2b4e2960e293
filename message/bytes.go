package message

import (
	"primer/api"
	"primer/frame"
	"primer/octets"
)

// Put: a message's frame.
func Put(m Message, replicas int) string {
	if !Good(m, replicas) {
		return ""
	}
	var w writer
	w.Int(m.Kind)
	m.show(&w)
	body, _ := w.Bytes()
	return frame.Wrap(body)
}

// Get the message of a frame.
func Get(s string, replicas int) (Message, api.Errno) {
	if !group(replicas) {
		return Message{}, api.ErrArg
	}
	body, err := frame.Open(s)
	if err != api.OK {
		return Message{}, err
	}
	m, err := read(body, replicas)
	if err != api.OK {
		return Message{}, err
	}
	return m, api.OK
}

// read a message; beside an error it is what was read so far.
func read(body string, replicas int) (Message, api.Errno) {
	r := reader{In: octets.Open(body), replicas: replicas}
	m := Message{Kind: r.Int()}
	if r.Err() == api.OK && !known(m.Kind) {
		return m, api.ErrKind
	}
	m.show(&r)
	if err := r.Err(); err != api.OK {
		return m, err
	}
	if r.wrong || !Good(m, replicas) {
		return m, api.ErrForm
	}
	return m, r.End()
}

// A writer writes the fields.
type writer struct {
	octets.Out
}

func (w *writer) numbers(places ...*int) {
	for _, place := range places {
		w.Int(*place)
	}
}

func (w *writer) text(place *string) {
	w.Text(*place)
}

func (w *writer) yes(place *bool) bool {
	w.Bool(*place)
	return *place
}

func (w *writer) known(place *[]int) {
	for _, n := range *place {
		w.Int(n)
	}
}

func (w *writer) entry(place *[]Entry) {
	for _, x := range *place {
		w.Int(x.Client)
		w.Int(x.Number)
		w.Text(x.Text)
	}
}

func (w *writer) entries(place *[]Entry) {
	w.Int(len(*place))
	w.entry(place)
}

// A reader reads the fields.
type reader struct {
	*octets.In
	replicas int
	wrong    bool // fewer than no entries were told
}

func (r *reader) numbers(places ...*int) {
	for _, place := range places {
		*place = r.Int()
	}
}

func (r *reader) text(place *string) {
	*place = r.Text()
}

func (r *reader) yes(place *bool) bool {
	*place = r.Bool()
	return *place
}

func (r *reader) known(place *[]int) {
	for range r.replicas {
		*place = append(*place, r.Int())
	}
}

func (r *reader) entry(place *[]Entry) {
	*place = append(*place, Entry{Client: r.Int(), Number: r.Int(), Text: r.Text()})
}

// entries: also more than a message may have are read, for the first error is that of the bytes.
func (r *reader) entries(place *[]Entry) {
	count := r.Int()
	r.wrong = count < 0
	for range count {
		if r.Err() != api.OK {
			return
		}
		r.entry(place)
	}
}
