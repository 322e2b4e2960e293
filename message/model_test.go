package message_test

import (
	"fmt"
	"reflect"
	"slices"
	"strings"

	"primer/api"
	"primer/frame"
	"primer/message"
	"primer/octets"
)

// sender: what all messages of replicas begin with.
const sender = "From Born Known "

// tail: what stands behind Op and Commit of all that have one.
const tail = " Base State Entries"

// fields of a message by their names, in the chapter's order.
func fields(m message.Message) []string {
	told := map[int]string{
		message.Request:          "Client Number Text",
		message.Prepare:          sender + "View Op Commit Entry",
		message.PrepareOK:        sender + "View Op",
		message.Reply:            sender + "View Client Number Text",
		message.Commit:           sender + "View Op Commit",
		message.StartViewChange:  sender + "View",
		message.DoViewChange:     sender + "View Last Op Commit" + tail,
		message.StartView:        sender + "View Op Commit" + tail,
		message.Recovery:         sender + "Nonce",
		message.RecoveryResponse: sender + "View Nonce Full",
		message.GetState:         sender + "View Op",
		message.NewState:         sender + "View Op Commit" + tail,
	}[m.Kind]
	if m.Kind == message.RecoveryResponse && m.Full {
		told += " Op Commit" + tail
	}
	return strings.Fields(told)
}

// slowGood asks field by field, each by its name.
func slowGood(m message.Message, replicas int) bool {
	if !slices.Contains([]int{3, 5, 7}, replicas) || len(fields(m)) == 0 {
		return false
	}
	named := fields(m)
	has := func(name string) bool { return slices.Contains(named, name) }
	all := reflect.ValueOf(m)
	for k := range all.NumField() {
		name, f := all.Type().Field(k).Name, all.Field(k)
		if name == "Kind" {
			continue
		}
		if name == "Entries" && has("Entry") {
			if f.Len() != 1 || !slowEntry(m.Entries[0]) {
				return false
			}
			continue
		}
		if !has(name) {
			if f.Kind() == reflect.Slice && f.Len() > 0 || f.Kind() != reflect.Slice && !f.IsZero() {
				return false
			}
			continue
		}
		if f.Kind() == reflect.Int && !slowNumber(int(f.Int())) {
			return false
		}
		if !slowField(m, name, replicas) {
			return false
		}
	}
	return true
}

// slowField: what the chapter says of that field, beside its being a number.
func slowField(m message.Message, name string, replicas int) bool {
	switch name {
	case "From":
		return m.From < replicas
	case "Known":
		for _, n := range m.Known {
			if !slowNumber(n) {
				return false
			}
		}
		return len(m.Known) == replicas
	case "Client":
		return m.Client < 3
	case "Number":
		return m.Number >= 1
	case "Text":
		return len(m.Text) <= 8192
	case "Last":
		return m.Last <= m.View
	case "Commit":
		return m.Commit <= m.Op
	case "Base":
		return m.Base <= m.Op && m.Base <= m.Commit
	case "Op":
		return m.Kind != message.Prepare || m.Op >= 1
	case "Nonce":
		return m.Nonce >= 1
	case "State":
		return len(m.State) <= 65536 && (m.Base != 0 || m.State == "")
	case "Entries":
		for _, x := range m.Entries {
			if !slowEntry(x) {
				return false
			}
		}
		return len(m.Entries) == m.Op-m.Base && len(m.Entries) <= 64
	}
	return true
}

func slowNumber(n int) bool {
	return n >= 0 && n <= api.MaxNumber
}

func slowEntry(x message.Entry) bool {
	return x.Client >= 0 && x.Client < 3 && x.Number >= 1 && x.Number <= api.MaxNumber && len(x.Text) <= 8192
}

// slowPut writes field by field, also what isn't good.
func slowPut(m message.Message) string {
	var o octets.Out
	o.Int(m.Kind)
	entry := func(x message.Entry) {
		o.Int(x.Client)
		o.Int(x.Number)
		o.Text(x.Text)
	}
	for _, name := range fields(m) {
		switch name {
		case "Known":
			for _, n := range m.Known {
				o.Int(n)
			}
		case "Entry":
			entry(m.Entries[0])
		case "Entries":
			o.Int(len(m.Entries))
			for _, x := range m.Entries {
				entry(x)
			}
		default:
			switch f := reflect.ValueOf(m).FieldByName(name); f.Kind() {
			case reflect.Int:
				o.Int(int(f.Int()))
			case reflect.String:
				o.Text(f.String())
			case reflect.Bool:
				o.Bool(f.Bool())
			}
		}
	}
	s, ok := o.Bytes()
	if !ok {
		panic("no bytes")
	}
	return frame.Wrap(s)
}

// slowGet tells the error of a body that isn't told by slowPut of a good message: it cuts what stands in it into its things, one by one.
func slowGet(body string, replicas int) (message.Message, api.Errno) {
	in := octets.Open(body)
	m := message.Message{Kind: in.Int()}
	if in.Err() == api.OK && (m.Kind < 1 || m.Kind > 12) {
		return message.Message{}, api.ErrKind
	}
	right := true
	entry := func() {
		m.Entries = append(m.Entries, message.Entry{Client: in.Int(), Number: in.Int(), Text: in.Text()})
	}
	for done := 0; done < len(fields(m)); done++ {
		switch name := fields(m)[done]; name {
		case "Known":
			for range replicas {
				m.Known = append(m.Known, in.Int())
			}
		case "Entry":
			entry()
		case "Entries":
			count := in.Int()
			right = count >= 0
			for k := 0; k < count && in.Err() == api.OK; k++ {
				entry()
			}
		default:
			switch f := reflect.ValueOf(&m).Elem().FieldByName(name); f.Kind() {
			case reflect.Int:
				f.SetInt(int64(in.Int()))
			case reflect.String:
				f.SetString(in.Text())
			case reflect.Bool:
				f.SetBool(in.Bool())
			}
		}
	}
	if in.Err() != api.OK {
		return message.Message{}, in.Err()
	}
	if !right || !slowGood(m, replicas) {
		return message.Message{}, api.ErrForm
	}
	if in.End() != api.OK {
		return message.Message{}, in.End()
	}
	return m, api.OK
}

// told: a message as a text, and the same text for the same messages alone.
func told(m message.Message) string {
	m.Known = slices.Concat(m.Known)
	m.Entries = slices.Concat(m.Entries)
	return fmt.Sprintf("%#v", m)
}

var nothing = told(message.Message{})
