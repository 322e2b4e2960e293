package octets

import (
	"slices"

	"primer/api"
)

// Out takes what is to be written.
type Out struct {
	sheet *sheet // shared with copies of this Out, till one of them goes on
	size  int    // how many of the sheet's bytes are this Out's
	bad   bool
}

// A sheet is only ever added to, so that what an Out has on it stays.
type sheet struct {
	bytes []byte
}

// Int writes a number.
func (o *Out) Int(n int) {
	s := Put(n)
	if s == "" {
		o.spoil()
		return
	}
	o.write(s)
}

// Bool writes a yes or no.
func (o *Out) Bool(b bool) {
	if b {
		o.write("\x01")
		return
	}
	o.write("\x00")
}

// Text writes a text.
func (o *Out) Text(s string) {
	if o.length(len(s)) {
		o.write(s)
	}
}

// Ints writes numbers.
func (o *Out) Ints(l []int) {
	if !o.length(len(l)) {
		return
	}
	for _, n := range l {
		o.Int(n)
	}
}

// Texts writes texts.
func (o *Out) Texts(l []string) {
	if !o.length(len(l)) {
		return
	}
	for _, s := range l {
		o.Text(s)
	}
}

// Bytes that were written, and whether all could be.
func (o *Out) Bytes() (string, bool) {
	if o == nil || o.bad {
		return "", false
	}
	return string(o.written()), true
}

// length writes a text's length or a list's count: one bound holds for both.
func (o *Out) length(n int) bool {
	if n > api.MaxText {
		o.spoil()
		return false
	}
	o.Int(n)
	return true
}

func (o *Out) write(s string) {
	if o == nil || o.bad {
		return
	}
	if o.sheet == nil || len(o.sheet.bytes) != o.size { // a copy went on first: its bytes are not ours
		o.sheet = &sheet{bytes: slices.Clone(o.written())}
	}
	o.sheet.bytes = append(o.sheet.bytes, s...)
	o.size = len(o.sheet.bytes)
}

func (o *Out) written() []byte {
	if o.sheet == nil {
		return nil
	}
	return o.sheet.bytes[:o.size]
}

// spoil lets go of the bytes, too: nobody can ask for them any more.
func (o *Out) spoil() {
	if o != nil {
		*o = Out{bad: true}
	}
}
