package roll

import (
	"slices"

	"primer/api"
	"primer/lex"
	"primer/octets"
)

// Put: a roll's bytes.
func Put(r Roll) string {
	var o octets.Out
	o.Int(len(r.Members))
	for _, m := range r.Members {
		o.Text(m.Name)
		o.Int(m.Role)
		o.Int(m.Quota)
	}
	o.Int(len(r.Classes))
	for _, c := range r.Classes {
		o.Text(c.Name)
		o.Text(c.Teacher)
		o.Texts(c.Students)
	}
	s, _ := o.Bytes()
	return s
}

// Get the roll of bytes.
func Get(s string) (Roll, api.Errno) {
	in := octets.Open(s)
	var r Roll
	members := in.Int()
	if members < 0 || members > api.MaxMembers {
		return Roll{}, api.ErrForm
	}
	for range members {
		r.Members = append(r.Members, Member{Name: in.Text(), Role: in.Int(), Quota: in.Int()})
	}
	classes := in.Int()
	if classes < 0 || classes > api.MaxClasses {
		return Roll{}, api.ErrForm
	}
	for range classes {
		r.Classes = append(r.Classes, Class{Name: in.Text(), Teacher: in.Text(), Students: in.Texts(api.MaxMembers)})
	}
	if err := in.Err(); err != api.OK {
		return Roll{}, err
	}
	if !r.holds() {
		return Roll{}, api.ErrForm
	}
	if err := in.End(); err != api.OK {
		return Roll{}, err
	}
	return r, api.OK
}

// holds: is it a roll, of no more members and classes than may be? The members come first, as classes' people are looked for among them.
func (r Roll) holds() bool {
	return rising(len(r.Members), func(k int) string { return r.Members[k].Name }) &&
		!slices.ContainsFunc(r.Members, func(m Member) bool { return !m.holds() }) &&
		rising(len(r.Classes), func(k int) string { return r.Classes[k].Name }) &&
		!slices.ContainsFunc(r.Classes, func(c Class) bool { return !r.holdsClass(c) })
}

func (m Member) holds() bool {
	return lex.Good(m.Name) && isRole(m.Role) && isQuota(m.Quota)
}

func (r Roll) holdsClass(c Class) bool {
	return lex.Good(c.Name) && r.has(c.Teacher, Teacher) &&
		rising(len(c.Students), func(k int) string { return c.Students[k] }) &&
		!slices.ContainsFunc(c.Students, func(student string) bool { return !r.has(student, Student) })
}

// rising: do so many names, each once?
func rising(count int, name func(k int) string) bool {
	for k := 1; k < count; k++ {
		if name(k-1) >= name(k) {
			return false
		}
	}
	return true
}
