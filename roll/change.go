package roll

import (
	"slices"

	"primer/api"
	"primer/lex"
)

// Enrol a member.
func (r Roll) Enrol(name string, role int) (Roll, api.Errno) {
	at, ok := r.member(name)
	switch {
	case !lex.Good(name):
		return Roll{}, api.ErrName
	case !isRole(role):
		return Roll{}, api.ErrKind
	case ok:
		return Roll{}, api.ErrExists
	case len(r.Members) >= api.MaxMembers:
		return Roll{}, api.ErrQuota
	}
	r = r.copied()
	r.Members = slices.Insert(r.Members, at, Member{name, role, firstQuota})
	return r, api.OK
}

// Leave: a member is no more.
func (r Roll) Leave(name string) (Roll, api.Errno) {
	at, ok := r.member(name)
	switch {
	case !ok:
		return Roll{}, api.ErrNone
	case slices.ContainsFunc(r.Classes, func(c Class) bool { return c.Teacher == name }):
		return Roll{}, api.ErrState
	}
	r = r.copied()
	r.Members = slices.Delete(r.Members, at, at+1)
	for k := range r.Classes {
		r.Classes[k].part(name)
	}
	return r, api.OK
}

// Grant a quota.
func (r Roll) Grant(name string, quota int) (Roll, api.Errno) {
	at, ok := r.member(name)
	switch {
	case !ok:
		return Roll{}, api.ErrNone
	case !isQuota(quota):
		return Roll{}, api.ErrArg
	}
	r = r.copied()
	r.Members[at].Quota = quota
	return r, api.OK
}

// Open a class.
func (r Roll) Open(class, teacher string) (Roll, api.Errno) {
	at, ok := r.class(class)
	m, known := r.Member(teacher)
	switch {
	case !lex.Good(class):
		return Roll{}, api.ErrName
	case ok:
		return Roll{}, api.ErrExists
	case !known:
		return Roll{}, api.ErrNone
	case m.Role != Teacher:
		return Roll{}, api.ErrRole
	case len(r.Classes) >= api.MaxClasses:
		return Roll{}, api.ErrQuota
	}
	r = r.copied()
	r.Classes = slices.Insert(r.Classes, at, Class{Name: class, Teacher: teacher})
	return r, api.OK
}

// Close a class.
func (r Roll) Close(class string) (Roll, api.Errno) {
	at, ok := r.class(class)
	if !ok {
		return Roll{}, api.ErrNone
	}
	r = r.copied()
	r.Classes = slices.Delete(r.Classes, at, at+1)
	return r, api.OK
}

// Join a class.
func (r Roll) Join(class, student string) (Roll, api.Errno) {
	at, ok := r.class(class)
	m, known := r.Member(student)
	switch {
	case !ok || !known:
		return Roll{}, api.ErrNone
	case m.Role != Student:
		return Roll{}, api.ErrRole
	case r.Classes[at].has(student):
		return Roll{}, api.ErrExists
	}
	r = r.copied()
	r.Classes[at].join(student)
	return r, api.OK
}

// Part from a class.
func (r Roll) Part(class, student string) (Roll, api.Errno) {
	at, ok := r.class(class)
	if !ok || !r.Classes[at].has(student) {
		return Roll{}, api.ErrNone
	}
	r = r.copied()
	r.Classes[at].part(student)
	return r, api.OK
}

func (c *Class) join(student string) {
	at, _ := slices.BinarySearch(c.Students, student)
	c.Students = slices.Insert(c.Students, at, student)
}

func (c *Class) part(student string) {
	if at, ok := slices.BinarySearch(c.Students, student); ok {
		c.Students = slices.Delete(c.Students, at, at+1)
	}
}
