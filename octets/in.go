package octets

import "primer/api"

// In reads what was written.
type In struct {
	rest string
	err  api.Errno
}

// Open bytes.
func Open(s string) *In {
	return &In{rest: s}
}

// Int reads a number.
func (i *In) Int() int {
	if i.Err() != api.OK {
		return 0
	}
	n, size, err := Get(i.rest)
	if err != api.OK {
		i.fail(err)
		return 0
	}
	i.take(size)
	return n
}

// Bool reads a yes or no.
func (i *In) Bool() bool {
	if i.Err() != api.OK {
		return false
	}
	if i.rest == "" {
		i.fail(api.ErrShort)
		return false
	}
	if i.rest[0] > 1 {
		i.fail(api.ErrForm)
		return false
	}
	return i.take(1) == "\x01"
}

// Text reads a text.
func (i *In) Text() string {
	size := i.length(api.MaxText)
	if i.Err() != api.OK {
		return ""
	}
	if size > len(i.rest) {
		i.fail(api.ErrShort)
		return ""
	}
	return i.take(size)
}

// Ints reads numbers.
func (i *In) Ints(most int) []int {
	return list(i, most, i.Int)
}

// Texts reads texts.
func (i *In) Texts(most int) []string {
	return list(i, most, i.Text)
}

// Err: the first error.
func (i *In) Err() api.Errno {
	if i == nil {
		return api.ErrArg
	}
	return i.err
}

// End: the first error, or that bytes are left.
func (i *In) End() api.Errno {
	if err := i.Err(); err != api.OK {
		return err
	}
	if i.rest != "" {
		return api.ErrTail
	}
	return api.OK
}

// list reads a count and as many items; none, where one of them can't be taken.
func list[T any](i *In, most int, item func() T) []T {
	var l []T
	for range i.length(min(most, api.MaxText)) {
		x := item()
		if i.Err() != api.OK {
			return nil
		}
		l = append(l, x)
	}
	return l
}

// length reads a text's length or a list's count; 0, where there is an error.
func (i *In) length(most int) int {
	n := i.Int()
	if i.Err() != api.OK {
		return 0
	}
	if n < 0 {
		i.fail(api.ErrForm)
		return 0
	}
	if n > most {
		i.fail(api.ErrLong)
		return 0
	}
	return n
}

func (i *In) take(size int) string {
	s := i.rest[:size]
	i.rest = i.rest[size:]
	return s
}

// fail keeps the error; what is left is never read again.
func (i *In) fail(err api.Errno) {
	*i = In{err: err}
}
