package message

// A visitor is shown the fields of a message.
type visitor interface {
	numbers(places ...*int)
	text(place *string)
	yes(place *bool) bool // what it tells
	known(place *[]int)
	entry(place *[]Entry)   // the only one
	entries(place *[]Entry) // and how many there are
}

// show a visitor the fields that a message has by its kind, in the order of its bytes.
func (m *Message) show(v visitor) {
	if m.Kind != Request {
		v.numbers(&m.From, &m.Born)
		v.known(&m.Known)
	}
	switch m.Kind {
	case Request:
		v.numbers(&m.Client, &m.Number)
		v.text(&m.Text)
	case Prepare:
		v.numbers(&m.View, &m.Op, &m.Commit)
		v.entry(&m.Entries)
	case PrepareOK, GetState:
		v.numbers(&m.View, &m.Op)
	case Reply:
		v.numbers(&m.View, &m.Client, &m.Number)
		v.text(&m.Text)
	case Commit:
		v.numbers(&m.View, &m.Op, &m.Commit)
	case StartViewChange:
		v.numbers(&m.View)
	case DoViewChange:
		v.numbers(&m.View, &m.Last)
		m.showTail(v)
	case StartView, NewState:
		v.numbers(&m.View)
		m.showTail(v)
	case Recovery:
		v.numbers(&m.Nonce)
	case RecoveryResponse:
		v.numbers(&m.View, &m.Nonce)
		if v.yes(&m.Full) {
			m.showTail(v)
		}
	}
}

// showTail: the tail, and what stands ahead of it in all messages that have one.
func (m *Message) showTail(v visitor) {
	v.numbers(&m.Op, &m.Commit, &m.Base)
	v.text(&m.State)
	v.entries(&m.Entries)
}

// A wiper leaves the zero values, but nothing of what they stand for.
type wiper struct{}

func (wiper) numbers(places ...*int) {
	for _, place := range places {
		*place = 0
	}
}

func (wiper) text(place *string) { *place = "" }

func (wiper) yes(place *bool) bool {
	told := *place
	*place = false
	return told
}

func (wiper) known(place *[]int) { *place = nil }

func (wiper) entry(place *[]Entry) { *place = nil }

func (wiper) entries(place *[]Entry) { *place = nil }
