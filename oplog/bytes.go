package oplog

import (
	"primer/api"
	"primer/command"
	"primer/octets"
	"primer/school"
)

// State: a machine's bytes.
func (m *Machine) State() string {
	if m == nil {
		return ""
	}
	var o octets.Out
	o.Text(m.school.Snapshot())
	o.Int(m.known())
	for client, r := range m.records {
		if r.number > 0 {
			o.Int(client)
			o.Int(r.number)
			o.Text(r.reply)
		}
	}
	s, _ := o.Bytes()
	return s
}

// known: of how many clients an entry was applied.
func (m *Machine) known() int {
	count := 0
	for _, r := range m.records {
		if r.number > 0 {
			count++
		}
	}
	return count
}

// Restore the machine of bytes.
func Restore(s string) (*Machine, api.Errno) {
	m, err := read(octets.Open(s))
	if err != api.OK {
		return nil, err
	}
	return m, api.OK
}

// read a machine; each thing is looked at as soon as it was read, for the first error is that of the front.
func read(in *octets.In) (*Machine, api.Errno) {
	made, wrong := school.Restore(in.Text())
	if err := look(in, wrong == api.OK); err != api.OK {
		return nil, err
	}
	m := &Machine{school: made}
	count := in.Int()
	if err := look(in, 0 <= count && count <= api.MaxClients); err != api.OK {
		return nil, err
	}
	next := 0
	for range count {
		client, err := m.record(in, next)
		if err != api.OK {
			return nil, err
		}
		next = client + 1
	}
	return m, in.End()
}

// record reads the record of a client, who is next or a later one.
func (m *Machine) record(in *octets.In, next int) (int, api.Errno) {
	client := in.Int()
	if err := look(in, client >= next && may(client)); err != api.OK {
		return 0, err
	}
	number := in.Int()
	if err := look(in, number > 0); err != api.OK {
		return 0, err
	}
	reply := in.Text()
	_, wrong := command.GetReply(reply)
	if err := look(in, wrong == api.OK); err != api.OK {
		return 0, err
	}
	m.records[client] = record{number, reply}
	return client, api.OK
}

// look at what was read last: the error of its bytes, or that it isn't right.
func look(in *octets.In, right bool) api.Errno {
	if err := in.Err(); err != api.OK {
		return err
	}
	if !right {
		return api.ErrForm
	}
	return api.OK
}
