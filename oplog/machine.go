package oplog

import (
	"primer/api"
	"primer/command"
	"primer/message"
	"primer/school"
)

// Machine is a school, and what each client was answered last.
type Machine struct {
	school  *school.School
	records [api.MaxClients]record
}

// A record of a client: the last request of its that was applied, and the reply; zero, where there is none.
type record struct {
	number int
	reply  string
}

// New machine.
func New() *Machine {
	return &Machine{school: school.New()}
}

// Apply an entry: the reply's bytes; none, where it was applied before.
func (m *Machine) Apply(x message.Entry) string {
	if m == nil || !may(x.Client) || x.Number <= m.records[x.Client].number {
		return ""
	}
	reply := m.answer(x.Text)
	m.records[x.Client] = record{x.Number, reply}
	return reply
}

// answer: the bytes of the school's reply to a command's.
func (m *Machine) answer(text string) string {
	c, err := command.Get(text)
	if err != api.OK {
		return command.PutReply(command.Reply{Code: err})
	}
	return command.PutReply(m.school.Apply(c))
}

// Known: a client's last request that was applied, and the reply.
func (m *Machine) Known(client int) (int, string) {
	if m == nil || !may(client) {
		return 0, ""
	}
	r := m.records[client]
	return r.number, r.reply
}

// may there be such a client?
func may(client int) bool {
	return 0 <= client && client < api.MaxClients
}
