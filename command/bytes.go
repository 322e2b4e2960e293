package command

import (
	"primer/api"
	"primer/marks"
	"primer/octets"
)

// Put: a command's bytes.
func Put(c Command) string {
	if !Good(c) {
		return ""
	}
	var o octets.Out
	o.Int(c.Kind)
	o.Text(c.Who)
	o.Text(c.Name)
	o.Text(c.Other)
	o.Text(c.Text)
	o.Texts(c.Word)
	for _, n := range c.Nums {
		o.Int(n)
	}
	s, _ := o.Bytes()
	return s
}

// Get the command of bytes.
func Get(s string) (Command, api.Errno) {
	in := octets.Open(s)
	c := Command{Kind: in.Int(), Who: in.Text(), Name: in.Text(), Other: in.Text(), Text: in.Text(), Word: in.Texts(api.MaxWord)}
	for k := range c.Nums {
		c.Nums[k] = in.Int()
	}
	if err := ended(in, Good(c)); err != api.OK {
		return Command{}, err
	}
	return c, api.OK
}

// PutReply: a reply's bytes.
func PutReply(r Reply) string {
	if len(r.Texts) > api.MaxWords || len(r.Marks) > api.MaxWords {
		return ""
	}
	var texts []string
	for _, f := range r.Marks {
		texts = append(texts, marks.Put(f))
	}
	var o octets.Out
	o.Int(int(r.Code))
	o.Int(r.Line)
	o.Int(r.Col)
	o.Int(r.Count)
	o.Text(r.Text)
	o.Texts(r.Texts)
	o.Texts(texts)
	s, _ := o.Bytes()
	return s
}

// GetReply: the reply of bytes.
func GetReply(s string) (Reply, api.Errno) {
	in := octets.Open(s)
	r := Reply{Code: api.Errno(in.Int()), Line: in.Int(), Col: in.Int(), Count: in.Int(), Text: in.Text(), Texts: in.Texts(api.MaxWords)}
	l, right := getMarks(in.Texts(api.MaxWords))
	r.Marks = l
	if err := ended(in, right && api.OK <= r.Code && r.Code <= api.ErrWord); err != api.OK {
		return Reply{}, err
	}
	return r, api.OK
}

// ended: what is wrong with bytes that were read: that they aren't such comes behind what layer 1 says of them, and ahead of what is left.
func ended(in *octets.In, such bool) api.Errno {
	if err := in.Err(); err != api.OK {
		return err
	}
	if !such {
		return api.ErrForm
	}
	return in.End()
}

// getMarks: the marks of texts; false, where one is none's.
func getMarks(texts []string) ([]float64, bool) {
	var l []float64
	for _, text := range texts {
		f, err := marks.Get(text)
		if err != api.OK {
			return nil, false
		}
		l = append(l, f)
	}
	return l, true
}
