package replica_test

import (
	"math"
	"slices"
	"testing"

	"primer/api"
	"primer/message"
	"primer/oplog"
	"primer/replica"
)

func TestNew(t *testing.T) {
	for _, most := range []int{math.MinInt, -1, 0, 1, 2, 3, 4, math.MaxInt} {
		for _, id := range []int{math.MinInt, -1, 0, 2, 3, 4, 5, 6, 7, math.MaxInt} {
			want := 1 <= most && most <= 3 && 0 <= id && id <= 2*most
			r := replica.New(id, most)
			if (r != nil) != want {
				t.Error(id, most, r)
			}
			for nonce, good := range map[int]bool{math.MinInt: false, -1: false, 0: false, 1: true, api.MaxNumber: true, api.MaxNumber + 1: false, math.MaxInt: false} {
				if r := replica.Restart(id, most, nonce); (r != nil) != (want && good) {
					t.Error(id, most, nonce, r)
				}
			}
			if want {
				begins(t, r, "Normal v0 op0 c0 b0")
				begins(t, replica.Restart(id, most, 9), "Recovering v0 op0 c0 b0")
			}
		}
	}
}

// begins: is a replica as it is first?
func begins(t *testing.T, r *replica.Replica, want string) {
	t.Helper()
	l := r.Log()
	if got := status(r.Status()); got != want || l.Base != 0 || l.State != "" || len(l.Entries) != 0 {
		t.Error(got, want, l)
	}
	if r.State() != oplog.New().State() || len(r.Applied()) != 0 {
		t.Error(want)
	}
}

func TestNil(t *testing.T) {
	var r *replica.Replica
	l := r.Log()
	if r.Status() != (replica.Status{}) || l.Base != 0 || l.State != "" || len(l.Entries) != 0 || r.State() != "" || len(r.Applied()) != 0 {
		t.Error("not zero")
	}
	for _, m := range []message.Message{request(1), commit(0, 0, 0, 0), vote(1, 3)} {
		if outs := r.Receive(frame(t, m, 3)); len(outs) != 0 || len(r.Tick()) != 0 {
			t.Error(outs)
		}
	}
}

func TestStates(t *testing.T) {
	if replica.Normal != 1 || replica.Changing != 2 || replica.Recovering != 3 {
		t.Error(replica.Normal, replica.Changing, replica.Recovering)
	}
}

// TestExample: the chapter's own.
func TestExample(t *testing.T) {
	goOn(t, "example", replica.New(0, 1), 0, 3, []step{
		{request(1), "1: Prepare op1; 2: Prepare op1", "Normal v0 op1 c0 b0"},
		{prepareOK(1, 0, 1), "-2: Reply client1 number1", "Normal v0 op1 c1 b0"},
		{prepareOK(2, 0, 1), "", ""},
	})
}

func TestRequest(t *testing.T) {
	second := request(2)
	second.Client, second.Text = 1, "second"
	goOn(t, "primary", replica.New(0, 1), 0, 3, []step{
		{request(1), "1: Prepare op1; 2: Prepare op1", "Normal v0 op1 c0 b0"},
		{request(1), "", ""}, // it stands in the log
		{second, "1: Prepare op2 {1 2 second}; 2: Prepare op2 {1 2 second}", "Normal v0 op2 c0 b0"},
		{request(1), "", ""}, // less than what stands there
		{second, "", ""},
		{prepareOK(1, 0, 1), "-2: Reply client1 number1", "Normal v0 op2 c1 b0"},
		{request(1), "-2: Reply client1 number1", ""}, // it was applied
		{prepareOK(1, 0, 2), "-2: Reply client1 number2", "Normal v0 op2 c2 b0"},
		{request(1), "", ""}, // a greater one was applied
		{second, "-2: Reply client1 number2", ""},
		{request(3), "1: Prepare op3 c2; 2: Prepare op3 c2", "Normal v0 op3 c2 b0"},
	})
	goOn(t, "not the primary", replica.New(1, 1), 1, 3, []step{
		{request(1), "", ""},
		{prepare(0, 0, 1, 1), "0: PrepareOK op1", "Normal v0 op1 c1 b0"},
		{request(1), "", ""},
		{vote(0, 3), "0: StartViewChange v3; 2: StartViewChange v3; 0: DoViewChange v3 op1 c1", "Changing v3 op1 c1 b0"},
		{request(1), "", ""},
	})
	goOn(t, "a primary that changes", replica.New(1, 1), 1, 3, []step{
		{vote(2, 1), "0: StartViewChange v1; 2: StartViewChange v1", "Changing v1 op0 c0 b0"},
		{request(1), "", ""},
	})
	goOn(t, "one that recovers", replica.Restart(0, 1, 5), 0, 3, []step{{request(1), "", ""}})
}

// TestFullLog: with MaxBatch entries the primary waits.
func TestFullLog(t *testing.T) {
	r := replica.New(0, 1)
	for op := 1; op <= api.MaxBatch; op++ {
		if outs := r.Receive(frame(t, request(op), 3)); len(outs) != 2 {
			t.Fatal(op, outs)
		}
	}
	goOn(t, "full", r, 0, 3, []step{
		{request(65), "", "Normal v0 op64 c0 b0"},
		{prepareOK(1, 0, 2), "-2: Reply client1 number1; -3: Reply client2 number2", "Normal v0 op64 c2 b0"},
		{request(65), "", ""},
		{prepareOK(1, 0, 6), "-1: Reply number3; -2: Reply client1 number4; -3: Reply client2 number5; -1: Reply number6", "Normal v0 op64 c6 b0"},
		{prepareOK(2, 0, 8), "-2: Reply client1 number7; -3: Reply client2 number8", "Normal v0 op64 c8 b8"},
		{request(65), "1: Prepare op65 c8; 2: Prepare op65 c8", "Normal v0 op65 c8 b8"},
		{getState(1, 0, 0), "1: NewState op65 c8 b8", ""},
	})
}

func TestPrepare(t *testing.T) {
	goOn(t, "in order", replica.New(2, 1), 2, 3, []step{
		{prepare(0, 0, 1, 0), "0: PrepareOK op1", "Normal v0 op1 c0 b0"},
		{prepare(0, 0, 1, 0), "0: PrepareOK op1", ""},
		{prepare(0, 0, 2, 1), "0: PrepareOK op2", "Normal v0 op2 c1 b0"},
		{prepare(0, 0, 4, 3), "0: GetState op2", "Normal v0 op2 c2 b0"}, // one is missing; it commits as far as it goes
		{prepare(0, 0, 3, 0), "0: PrepareOK op3", "Normal v0 op3 c2 b0"},
		{prepare(0, 0, 1, 1), "0: PrepareOK op3", ""},
		{commit(0, 0, 2, 2), "0: PrepareOK op3", ""},
		{commit(0, 0, 3, 3), "0: PrepareOK op3", "Normal v0 op3 c3 b0"},
		{commit(0, 0, 4, 4), "0: GetState op3", ""},
		{prepare(1, 0, 4, 3), "", ""}, // not from the primary
		{commit(1, 0, 3, 3), "", ""},
		{commit(2, 0, 3, 3), "", ""}, // its own
	})
	goOn(t, "another one of that number", replica.New(2, 1), 2, 3, []step{
		{prepare(0, 0, 1, 1), "0: PrepareOK op1", "Normal v0 op1 c1 b0"},
		{message.Message{Kind: message.Prepare, Op: 1, Entries: from(4, 5)}, "0: PrepareOK op1", ""},
		{vote(1, 4), "0: StartViewChange v4; 1: StartViewChange v4; 1: DoViewChange v4 op1 c1", "Changing v4 op1 c1 b0"},
	})
}

func TestPrepareOfAnotherView(t *testing.T) {
	goOn(t, "greater", replica.New(2, 1), 2, 3, []step{
		{prepare(0, 0, 1, 0), "0: PrepareOK op1", "Normal v0 op1 c0 b0"},
		{prepare(1, 1, 2, 1), "1: GetState v1 op1", ""},
		{commit(1, 1, 1, 1), "1: GetState v1 op1", ""},
		{commit(0, 1, 1, 1), "", ""}, // not the primary of it
		{commit(0, 6, 1, 1), "0: GetState v6 op1", ""},
		{newState(1, 4, 0, 3, 2), "1: PrepareOK v4 op3", "Normal v4 op3 c2 b0"},
		{prepare(0, 3, 4, 3), "", ""}, // of a lesser view
		{commit(0, 0, 3, 3), "", ""},
		{prepare(1, 4, 4, 3), "1: PrepareOK v4 op4", "Normal v4 op4 c3 b0"},
	})
	goOn(t, "changing", replica.New(2, 1), 2, 3, []step{
		{vote(0, 1), "0: StartViewChange v1; 1: StartViewChange v1; 1: DoViewChange v1", "Changing v1 op0 c0 b0"},
		{prepare(0, 0, 1, 0), "", ""},
		{prepare(1, 1, 1, 0), "1: GetState v1", ""},
		{commit(1, 1, 0, 0), "1: GetState v1", ""},
		{commit(2, 2, 0, 0), "", ""},
		{commit(0, 3, 0, 0), "0: GetState v3", ""},
	})
	goOn(t, "recovering", replica.Restart(2, 1, 5), 2, 3, []step{
		{prepare(0, 0, 1, 1), "", ""},
		{commit(1, 1, 1, 1), "", ""},
	})
	goOn(t, "a primary", replica.New(0, 1), 0, 3, []step{
		{commit(1, 1, 1, 1), "1: GetState v1", ""},
		{commit(1, 0, 1, 1), "", ""},
	})
}

func TestPrepareOK(t *testing.T) {
	r := replica.New(0, 2)
	goOn(t, "of five", r, 0, 5, []step{
		{request(1), "1: Prepare op1; 2: Prepare op1; 3: Prepare op1; 4: Prepare op1", "Normal v0 op1 c0 b0"},
		{request(2), "1: Prepare op2; 2: Prepare op2; 3: Prepare op2; 4: Prepare op2", "Normal v0 op2 c0 b0"},
		{request(3), "1: Prepare op3; 2: Prepare op3; 3: Prepare op3; 4: Prepare op3", "Normal v0 op3 c0 b0"},
		{prepareOK(4, 0, 3), "", ""},
		{prepareOK(4, 0, 3), "", ""}, // the same one counts once
		{prepareOK(4, 0, 1), "", ""}, // a late one takes nothing back
		{prepareOK(1, 0, 4), "", ""}, // there is no 4
		{prepareOK(1, 1, 3), "", ""}, // of another view
		{prepareOK(0, 0, 3), "", ""}, // its own
		{prepareOK(1, 0, 0), "", ""},
		{prepareOK(1, 0, 2), "-2: Reply client1 number1; -3: Reply client2 number2", "Normal v0 op3 c2 b0"},
		{prepareOK(2, 0, 1), "", ""},
		{prepareOK(2, 0, 3), "-1: Reply number3", "Normal v0 op3 c3 b0"},
	})
	if l := r.Applied(); !slices.Equal(l, []replica.Applied{{Op: 1, Entry: at(1)}, {Op: 2, Entry: at(2)}, {Op: 3, Entry: at(3)}}) || len(r.Applied()) != 0 {
		t.Error(l)
	}
	goOn(t, "not the primary", replica.New(1, 1), 1, 3, []step{
		{prepare(0, 0, 1, 0), "0: PrepareOK op1", "Normal v0 op1 c0 b0"},
		{prepareOK(2, 0, 1), "", ""},
		{vote(0, 1), "0: StartViewChange v1; 2: StartViewChange v1", "Changing v1 op1 c0 b0"},
		{prepareOK(2, 1, 1), "", ""},
	})
	goOn(t, "recovering", replica.Restart(0, 1, 5), 0, 3, []step{{prepareOK(2, 0, 0), "", ""}})
}

// TestPrepareOKOfAnEarlierView: what was acknowledged there doesn't count in a later one.
func TestPrepareOKOfAnEarlierView(t *testing.T) {
	goOn(t, "five", replica.New(0, 2), 0, 5, []step{
		{request(1), "1: Prepare op1; 2: Prepare op1; 3: Prepare op1; 4: Prepare op1", "Normal v0 op1 c0 b0"},
		{prepareOK(1, 0, 1), "", ""},
		{startView(2, 5, 0, 1, 0), "", "Normal v5 op1 c0 b0"},
		{prepareOK(2, 5, 1), "", ""},
		{prepareOK(3, 5, 1), "-2: Reply v5 client1 number1", "Normal v5 op1 c1 b0"},
	})
}

func TestVotes(t *testing.T) {
	const all = "0: StartViewChange v2; 1: StartViewChange v2; 2: StartViewChange v2; 4: StartViewChange v2"
	steps := []step{
		{prepare(0, 0, 1, 1), "0: PrepareOK op1", "Normal v0 op1 c1 b0"},
		{vote(1, 0), "", ""}, // of the view in which it is Normal
		{vote(1, 2), all, "Changing v2 op1 c1 b0"},
		{vote(1, 2), "", ""}, // the same one votes once
		{vote(2, 1), "", ""}, // for a lesser one
		{vote(3, 2), "", ""}, // its own
		{vote(4, 2), "2: DoViewChange v2 op1 c1", ""},
		{vote(0, 2), "", ""}, // the word went out already
		{vote(4, 3), "0: StartViewChange v3; 1: StartViewChange v3; 2: StartViewChange v3; 4: StartViewChange v3", "Changing v3 op1 c1 b0"},
		{vote(1, 3), "", ""}, // it is the primary itself
		{vote(2, 2), "", ""},
		{vote(2, 4), "0: StartViewChange v4; 1: StartViewChange v4; 2: StartViewChange v4; 4: StartViewChange v4", "Changing v4 op1 c1 b0"},
		{vote(0, 4), "4: DoViewChange v4 op1 c1", ""},
	}
	goOn(t, "five", replica.New(3, 2), 3, 5, steps)
	goOn(t, "recovering", replica.Restart(1, 1, 5), 1, 3, []step{{vote(0, 1), "", ""}, {vote(2, 1), "", ""}})
	goOn(t, "the last normal view", replica.New(0, 1), 0, 3, []step{
		{startView(1, 1, 0, 2, 1), "1: PrepareOK v1 op2", "Normal v1 op2 c1 b0"},
		{vote(1, 4), "1: StartViewChange v4; 2: StartViewChange v4; 1: DoViewChange v4 last1 op2 c1", "Changing v4 op2 c1 b0"},
		{vote(2, 5), "1: StartViewChange v5; 2: StartViewChange v5; 2: DoViewChange v5 last1 op2 c1", "Changing v5 op2 c1 b0"},
	})
}

// TestWords: from f + 1 of them, its own too, the view begins.
func TestWords(t *testing.T) {
	goOn(t, "of three", replica.New(1, 1), 1, 3, []step{
		{prepare(0, 0, 1, 0), "0: PrepareOK op1", "Normal v0 op1 c0 b0"},
		{vote(2, 1), "0: StartViewChange v1; 2: StartViewChange v1", "Changing v1 op1 c0 b0"},
		{word(2, 1, 0, 0, 2, 1), "0: StartView v1 op2; 2: StartView v1 op2; -2: Reply v1 client1 number1", "Normal v1 op2 c1 b0"},
		{word(0, 1, 0, 0, 3, 1), "", ""}, // it is Normal in that view
		{prepareOK(0, 1, 2), "-3: Reply v1 client2 number2", "Normal v1 op2 c2 b0"},
	})
	goOn(t, "the change begins with it", replica.New(1, 1), 1, 3, []step{
		{word(0, 4, 0, 0, 1, 1), "0: StartViewChange v4; 2: StartViewChange v4; 0: StartView v4 op1; 2: StartView v4 op1; -2: Reply v4 client1 number1", "Normal v4 op1 c1 b0"},
	})
	goOn(t, "not to the primary", replica.New(1, 1), 1, 3, []step{
		{word(2, 3, 0, 0, 1, 1), "0: StartViewChange v3; 2: StartViewChange v3", "Changing v3 op0 c0 b0"},
		{word(0, 3, 0, 0, 1, 1), "", ""},
		{word(0, 1, 0, 0, 1, 1), "", ""}, // of a lesser view
	})
	goOn(t, "recovering", replica.Restart(1, 1, 5), 1, 3, []step{{word(2, 1, 0, 0, 1, 1), "", ""}, {word(0, 1, 0, 0, 1, 1), "", ""}})
}

// another: the tail, with another last entry.
func another(m message.Message) message.Message {
	m.Entries = slices.Clone(m.Entries)
	m.Entries[len(m.Entries)-1].Text = "other"
	return m
}

// TestBestWord: the greatest last normal view, of these the greatest Op, of these the least replica.
func TestBestWord(t *testing.T) {
	for _, x := range []struct {
		what      string
		two, four message.Message
		op        int
		others    bool // is the last entry another one?
		commit    int
	}{
		{"the greater view", word(2, 8, 1, 0, 3, 1), another(word(4, 8, 2, 0, 2, 2)), 2, true, 2},
		{"the greater view, first", another(word(2, 8, 2, 0, 2, 0)), word(4, 8, 1, 0, 3, 1), 2, true, 1},
		{"the greater op", word(2, 8, 2, 0, 3, 2), another(word(4, 8, 2, 0, 4, 0)), 4, true, 2},
		{"the least replica", another(word(2, 8, 2, 0, 3, 0)), word(4, 8, 2, 0, 3, 2), 3, true, 2},
		{"its own by the view", another(word(2, 8, 0, 0, 3, 0)), another(word(4, 8, 0, 0, 4, 0)), 1, false, 0},
		{"its own by the op", another(word(2, 8, 0, 0, 3, 0)), another(word(4, 8, 0, 0, 4, 0)), 6, false, 0},
		{"its own by the place", another(word(4, 8, 0, 0, 1, 0)), another(word(4, 8, 1, 0, 6, 0)), 6, false, 0},
	} {
		r := replica.New(3, 2)
		switch x.what {
		case "its own by the view":
			r.Receive(frame(t, startView(1, 1, 0, 1, 0), 5))
		case "its own by the op":
			r.Receive(frame(t, startView(1, 0, 0, 6, 0), 5))
		case "its own by the place":
			r.Receive(frame(t, startView(1, 1, 0, 6, 0), 5))
			x.two = word(2, 8, 0, 0, 1, 0)
		}
		r.Receive(frame(t, x.four, 5))
		if got := r.Status(); got.State != replica.Changing || got.View != 8 {
			t.Error(x.what, got)
		}
		r.Receive(frame(t, x.two, 5))
		want := replica.Status{State: replica.Normal, View: 8, Op: x.op, Commit: x.commit}
		l := r.Log()
		if got := r.Status(); got != want || (l.Entries[x.op-1] != at(x.op)) != x.others {
			t.Error(x.what, got, want, l)
		}
	}
}

// TestGreatestCommit: of the words, also of one whose log isn't taken.
func TestGreatestCommit(t *testing.T) {
	goOn(t, "five", replica.New(0, 2), 0, 5, []step{
		{vote(2, 5), "1: StartViewChange v5; 2: StartViewChange v5; 3: StartViewChange v5; 4: StartViewChange v5", "Changing v5 op0 c0 b0"},
		{word(2, 5, 1, 0, 2, 2), "", ""},
		{word(2, 5, 1, 0, 2, 2), "", ""}, // the same one counts once
		{word(4, 5, 3, 0, 3, 0), "1: StartView v5 op3; 2: StartView v5 op3; 3: StartView v5 op3; 4: StartView v5 op3; -2: Reply v5 client1 number1; -3: Reply v5 client2 number2", "Normal v5 op3 c2 b0"},
	})
}

func TestStartView(t *testing.T) {
	for _, of := range []func(sender, view, base, op, commit int) message.Message{startView, newState} {
		goOn(t, "normal", replica.New(2, 1), 2, 3, []step{
			{prepare(0, 0, 1, 0), "0: PrepareOK op1", "Normal v0 op1 c0 b0"},
			{of(0, 0, 0, 1, 1), "", ""}, // no more than it has
			{of(0, 0, 0, 2, 1), "0: PrepareOK op2", "Normal v0 op2 c1 b0"},
			{of(1, 0, 0, 1, 1), "", ""},
			{of(1, 0, 0, 3, 1), "0: PrepareOK op3", "Normal v0 op3 c1 b0"}, // also not from the primary
			{of(1, 1, 0, 1, 1), "1: PrepareOK v1 op1", "Normal v1 op1 c1 b0"},
			{of(0, 0, 0, 4, 4), "", ""}, // of a lesser view
			{of(0, 2, 0, 4, 4), "-3: Reply v2 client2 number2; -1: Reply v2 number3; -2: Reply v2 client1 number4", "Normal v2 op4 c4 b0"}, // to itself it acknowledges nothing
			{of(0, 2, 0, 5, 5), "", ""}, // it is the primary of it
		})
		goOn(t, "changing", replica.New(2, 1), 2, 3, []step{
			{prepare(0, 0, 1, 0), "0: PrepareOK op1", "Normal v0 op1 c0 b0"},
			{vote(1, 3), "0: StartViewChange v3; 1: StartViewChange v3; 0: DoViewChange v3 op1", "Changing v3 op1 c0 b0"},
			{of(1, 2, 0, 2, 2), "", ""},
			{another(of(1, 3, 0, 1, 1)), "0: PrepareOK v3 op1", "Normal v3 op1 c1 b0"}, // as much as it has, but of that view
			{vote(1, 4), "0: StartViewChange v4; 1: StartViewChange v4; 1: DoViewChange v4 last3 op1 c1 {1 1 other}", "Changing v4 op1 c1 b0"},
			{of(0, 6, 0, 2, 1), "0: PrepareOK v6 op2", "Normal v6 op2 c1 b0"},
		})
		goOn(t, "recovering", replica.Restart(2, 1, 5), 2, 3, []step{{of(0, 0, 0, 1, 1), "", ""}, {of(1, 1, 0, 1, 1), "", ""}})
	}
}

// TestTakenState: where the Base is above the commit, the State stands for what isn't applied.
func TestTakenState(t *testing.T) {
	r := replica.New(2, 1)
	goOn(t, "behind", r, 2, 3, []step{
		{prepare(0, 0, 1, 1), "0: PrepareOK op1", "Normal v0 op1 c1 b0"},
		{newState(0, 0, 8, 11, 10), "0: PrepareOK op11", "Normal v0 op11 c10 b8"},
		{newState(0, 0, 8, 12, 10), "0: PrepareOK op12", "Normal v0 op12 c10 b8"}, // not above it
		{newState(0, 0, 0, 13, 0), "0: PrepareOK op13", "Normal v0 op13 c10 b8"},  // less than its own
		{newState(0, 0, 16, 16, 16), "0: PrepareOK op16", "Normal v0 op16 c16 b16"},
	})
	if l := r.Applied(); !slices.Equal(l, []replica.Applied{{Op: 1, Entry: at(1)}, {Op: 9, Entry: at(9)}, {Op: 10, Entry: at(10)}}) {
		t.Error(l)
	}
	if got := r.Log(); r.State() != state(16) || got.State != state(16) || got.Base != 16 || len(got.Entries) != 0 {
		t.Error(got)
	}
	// A Base that isn't above the commit, but above its own: the machine goes on.
	r = replica.New(2, 1)
	odd := newState(0, 0, 3, 6, 5)
	odd.State = "not looked at"
	goOn(t, "ahead", r, 2, 3, []step{
		{newState(0, 0, 0, 5, 4), "0: PrepareOK op5", "Normal v0 op5 c4 b0"},
		{odd, "0: PrepareOK op6", "Normal v0 op6 c5 b3"},
	})
	if r.State() != state(5) || len(r.Applied()) != 5 {
		t.Error("machine")
	}
}

// TestWrongState: nothing happens at all.
func TestWrongState(t *testing.T) {
	wrong := func(m message.Message) message.Message {
		m.State = "wrong"
		return m
	}
	for _, m := range []message.Message{newState(0, 0, 8, 9, 9), newState(0, 3, 8, 9, 9), startView(0, 0, 8, 9, 9), startView(1, 4, 8, 8, 8), word(0, 2, 0, 8, 9, 9), word(0, 5, 0, 8, 9, 9)} {
		goOn(t, said(m), replica.New(2, 1), 2, 3, []step{
			{knowing(wrong(m), 0, 9, 0), "", "Normal v0 op0 c0 b0"},
			{commit(0, 0, 0, 0), "0: PrepareOK", ""}, // it knows nothing of a 9
		})
	}
	r := replica.New(2, 1)
	goOn(t, "changing", r, 2, 3, []step{
		{vote(0, 2), "0: StartViewChange v2; 1: StartViewChange v2", "Changing v2 op0 c0 b0"},
		{wrong(word(0, 2, 0, 8, 9, 9)), "", ""},
		{wrong(startView(1, 2, 8, 9, 9)), "", ""},
		{word(1, 2, 0, 8, 9, 8), "0: StartView v2 op9 c8 b8; 1: StartView v2 op9 c8 b8", "Normal v2 op9 c8 b8"}, // the wrong word isn't there
	})
	goOn(t, "recovering", replica.Restart(2, 1, 5), 2, 3, []step{
		{response(1, 0, 5), "", ""},
		{wrong(full(0, 0, 5, 8, 9, 9)), "", ""},
		{full(0, 0, 5, 0, 1, 1), "0: PrepareOK op1 born5 knows[0 0 5]", "Normal v0 op1 c1 b0"},
	})
	if r.State() != state(8) {
		t.Error("machine")
	}
}

func TestRecovery(t *testing.T) {
	goOn(t, "primary", replica.New(0, 1), 0, 3, []step{
		{request(1), "1: Prepare op1; 2: Prepare op1", "Normal v0 op1 c0 b0"},
		{recovery(2, 5, 5), "2: RecoveryResponse op1 nonce5 full knows[0 0 5]", ""},
		{recovery(2, 6, 5), "", ""}, // the Nonce isn't its Born
		{recovery(2, 6, 7), "", ""},
		{recovery(2, 5, 5), "", ""}, // late
		{recovery(1, 0, 5), "", ""},
		{recovery(2, 6, 6), "2: RecoveryResponse op1 nonce6 full knows[0 0 6]", ""},
		{vote(1, 1), "1: StartViewChange v1 knows[0 0 6]; 2: StartViewChange v1 knows[0 0 6]; 1: DoViewChange v1 op1 knows[0 0 6]", "Changing v1 op1 c0 b0"},
		{recovery(2, 6, 6), "", ""},
		{startView(1, 1, 0, 1, 1), "1: PrepareOK v1 op1 knows[0 0 6]", "Normal v1 op1 c1 b0"},
		{recovery(2, 6, 6), "2: RecoveryResponse v1 nonce6 knows[0 0 6]", ""},
	})
	goOn(t, "not the primary", replica.New(1, 1), 1, 3, []step{
		{recovery(0, 5, 5), "0: RecoveryResponse nonce5 knows[5 0 0]", "Normal v0 op0 c0 b0"},
		{newState(2, 4, 8, 9, 8), "", "Normal v4 op9 c8 b8"},
		{recovery(0, 5, 5), "0: RecoveryResponse v4 op9 c8 b8 nonce5 full knows[5 0 0]", ""},
	})
	goOn(t, "recovering", replica.Restart(1, 1, 5), 1, 3, []step{{recovery(0, 4, 4), "", ""}})
}

func TestRecoveryResponse(t *testing.T) {
	const begin = "Recovering v0 op0 c0 b0"
	begun := func() *replica.Replica { return replica.Restart(3, 2, 7) }
	goOn(t, "as it goes", begun(), 3, 5, []step{
		{full(0, 0, 7, 0, 2, 1), "", begin},
		{response(1, 0, 7), "", ""},
		{response(1, 0, 7), "", ""}, // the same one counts once
		{response(2, 0, 6), "", ""}, // of another nonce
		{response(2, 0, 8), "", ""},
		{response(2, 0, 7), "0: PrepareOK op2 born7 knows[0 0 0 7 0]", "Normal v0 op2 c1 b0"},
		{full(1, 1, 7, 0, 3, 3), "", ""},
		{newState(0, 0, 0, 3, 2), "0: PrepareOK op3 born7 knows[0 0 0 7 0]", "Normal v0 op3 c2 b0"},
	})
	goOn(t, "the primary of the greatest view isn't there", begun(), 3, 5, []step{
		{full(0, 0, 7, 0, 2, 1), "", begin},
		{response(1, 0, 7), "", ""},
		{response(2, 1, 7), "", ""},
		{response(4, 1, 7), "", ""},
		{full(0, 1, 7, 0, 2, 1), "", ""}, // Full, but not the primary of it
		{full(1, 1, 7, 8, 9, 8), "1: PrepareOK v1 op9 born7 knows[0 0 0 7 0]", "Normal v1 op9 c8 b8"},
	})
	goOn(t, "the greatest view's isn't Full", begun(), 3, 5, []step{
		{full(0, 5, 7, 0, 2, 1), "", begin},
		{response(1, 6, 7), "", ""},
		{response(2, 6, 7), "", ""},
		{full(1, 6, 7, 0, 2, 1), "1: PrepareOK v6 op2 born7 knows[0 0 0 7 0]", "Normal v6 op2 c1 b0"},
	})
	goOn(t, "what stays", begun(), 3, 5, []step{
		{full(0, 5, 7, 0, 2, 1), "", begin},
		{response(0, 5, 7), "", ""},      // the same view, but not Full
		{full(0, 0, 7, 0, 9, 9), "", ""}, // of a lesser view
		{full(0, 5, 7, 0, 3, 2), "", ""}, // the later one of two that are alike
		{response(1, 4, 7), "", ""},
		{response(1, 5, 7), "", ""},
		{response(2, 4, 7), "0: PrepareOK v5 op3 born7 knows[0 0 0 7 0]", "Normal v5 op3 c2 b0"},
	})
	goOn(t, "a greater view that isn't Full", begun(), 3, 5, []step{
		{full(0, 5, 7, 0, 2, 1), "", begin},
		{response(1, 5, 7), "", ""},
		{response(0, 6, 7), "", ""},
		{response(2, 5, 7), "", ""}, // the primary of view 6 is 1
		{full(1, 6, 7, 0, 4, 1), "1: PrepareOK v6 op4 born7 knows[0 0 0 7 0]", "Normal v6 op4 c1 b0"},
	})
	goOn(t, "its own view", begun(), 3, 5, []step{
		{response(0, 3, 7), "", begin},
		{response(1, 3, 7), "", ""},
		{response(2, 3, 7), "", ""},
		{response(4, 3, 7), "", ""},
		{full(4, 4, 7, 0, 0, 0), "4: PrepareOK v4 born7 knows[0 0 0 7 0]", "Normal v4 op0 c0 b0"},
	})
	goOn(t, "not recovering", replica.New(1, 1), 1, 3, []step{
		{full(0, 3, 7, 0, 2, 1), "", "Normal v0 op0 c0 b0"},
		{response(2, 3, 7), "", ""},
	})
}

func TestGetState(t *testing.T) {
	goOn(t, "all", replica.New(2, 1), 2, 3, []step{
		{getState(1, 0, 0), "1: NewState", "Normal v0 op0 c0 b0"},
		{startView(1, 4, 8, 10, 9), "1: PrepareOK v4 op10", "Normal v4 op10 c9 b8"},
		{getState(0, 4, 7), "0: NewState v4 op10 c9 b8", ""},
		{getState(1, 3, 50), "1: NewState v4 op10 c9 b8", ""},
		{getState(1, 5, 50), "", ""}, // of a greater view
		{vote(1, 6), "0: StartViewChange v6; 1: StartViewChange v6; 0: DoViewChange v6 last4 op10 c9 b8", "Changing v6 op10 c9 b8"},
		{getState(1, 4, 0), "", ""},
	})
	goOn(t, "recovering", replica.Restart(2, 1, 5), 2, 3, []step{{getState(1, 0, 0), "", ""}})
}

// TestBorn: what was heard of a replica before it was restarted doesn't count any more.
func TestBorn(t *testing.T) {
	goOn(t, "acknowledgements", replica.New(0, 2), 0, 5, []step{
		{request(1), "1: Prepare op1; 2: Prepare op1; 3: Prepare op1; 4: Prepare op1", "Normal v0 op1 c0 b0"},
		{born(3, prepareOK(1, 0, 1)), "", ""},
		{born(4, message.Message{Kind: message.Reply, From: 1, Number: 1}), "", ""}, // of any kind
		{prepareOK(2, 0, 1), "", ""},
		{born(3, prepareOK(1, 0, 1)), "", ""}, // late
		{born(4, prepareOK(1, 0, 1)), "-2: Reply client1 number1 knows[0 4 0 0 0]", "Normal v0 op1 c1 b0"},
	})
	goOn(t, "told by others", replica.New(0, 2), 0, 5, []step{
		{request(1), "1: Prepare op1; 2: Prepare op1; 3: Prepare op1; 4: Prepare op1", "Normal v0 op1 c0 b0"},
		{born(3, prepareOK(1, 0, 1)), "", ""},
		{knowing(prepareOK(2, 0, 1), 9, 4, 0, 2, 1), "", ""}, // what others say of it itself doesn't count
		{knowing(prepareOK(3, 0, 0), 0, 3, 0, 0, 0), "", ""}, // of no Born below 2
		{born(2, prepareOK(3, 0, 1)), "-2: Reply client1 number1 knows[0 4 0 2 1]", "Normal v0 op1 c1 b0"},
	})
	goOn(t, "votes", replica.New(4, 2), 4, 5, []step{
		{vote(1, 1), "0: StartViewChange v1; 1: StartViewChange v1; 2: StartViewChange v1; 3: StartViewChange v1", "Changing v1 op0 c0 b0"},
		{knowing(vote(0, 0), 0, 5, 0, 0, 0), "", ""},
		{vote(2, 1), "", ""},
		{vote(1, 1), "", ""},
		{born(5, vote(1, 1)), "1: DoViewChange v1 knows[0 5 0 0 0]", ""},
		{born(6, vote(1, 1)), "", ""},
	})
	goOn(t, "words", replica.New(1, 2), 1, 5, []step{
		{word(2, 1, 0, 0, 0, 0), "0: StartViewChange v1; 2: StartViewChange v1; 3: StartViewChange v1; 4: StartViewChange v1", "Changing v1 op0 c0 b0"},
		{born(5, vote(2, 1)), "", ""},
		{word(3, 1, 0, 0, 0, 0), "", ""},
		{word(2, 1, 0, 0, 2, 0), "", ""},
		{born(5, word(2, 1, 0, 0, 1, 0)), "0: StartView v1 op1 knows[0 0 5 0 0]; 2: StartView v1 op1 knows[0 0 5 0 0]; 3: StartView v1 op1 knows[0 0 5 0 0]; 4: StartView v1 op1 knows[0 0 5 0 0]", "Normal v1 op1 c0 b0"},
	})
	goOn(t, "answers", replica.Restart(1, 1, 8), 1, 3, []step{
		{full(0, 0, 8, 0, 1, 1), "", ""},
		{born(5, full(0, 0, 8, 0, 2, 1)), "", ""},
		{knowing(commit(2, 0, 0, 0), 6, 0, 0), "", ""}, // it learns, though it does nothing else
		{response(2, 0, 8), "", ""},
		{born(5, full(0, 0, 8, 0, 2, 1)), "", ""},
		{born(6, full(0, 0, 8, 0, 3, 1)), "0: PrepareOK op3 born8 knows[6 8 0]", "Normal v0 op3 c1 b0"},
	})
}

func TestNoMessages(t *testing.T) {
	r := replica.New(0, 1)
	good := frame(t, request(1), 3)
	for _, f := range []string{"", "x", good[1:], good[:len(good)-1], good + "x", "y" + good[1:], frame(t, prepareOK(1, 0, 0), 5), frame(t, vote(4, 1), 5), frame(t, born(9, vote(0, 1)), 3)} {
		if outs := r.Receive(f); len(outs) != 0 || r.Status() != (replica.Status{State: replica.Normal}) {
			t.Errorf("%x: %v", f, outs)
		}
	}
	goOn(t, "it learnt nothing", r, 0, 3, []step{{in: message.Message{}, outs: "1: Commit; 2: Commit"}})
}

func TestTick(t *testing.T) {
	const change = "0: StartViewChange v1; 2: StartViewChange v1"
	primary := []step{{request(1), "1: Prepare op1; 2: Prepare op1", "Normal v0 op1 c0 b0"}}
	for range 20 {
		primary = append(primary, step{outs: "1: Commit op1; 2: Commit op1"})
	}
	goOn(t, "primary", replica.New(0, 1), 0, 3, append(primary,
		step{prepareOK(2, 0, 1), "-2: Reply client1 number1", "Normal v0 op1 c1 b0"},
		step{outs: "1: Commit op1 c1; 2: Commit op1 c1"},
		step{vote(1, 1), "1: StartViewChange v1; 2: StartViewChange v1; 1: DoViewChange v1 op1 c1", "Changing v1 op1 c1 b0"},
		step{outs: "1: StartViewChange v1; 2: StartViewChange v1; 1: DoViewChange v1 op1 c1"},
	))
	goOn(t, "not the primary", replica.New(1, 1), 1, 3, slices.Concat(ticks(7), []step{
		{outs: change, status: "Changing v1 op0 c0 b0"}, {outs: change}, {outs: change}, {outs: change},
		{vote(2, 1), "", ""}, // it is the primary of that itself
		{outs: change}, {outs: change}, {outs: change}, {outs: change},
		{outs: "0: StartViewChange v2; 2: StartViewChange v2", status: "Changing v2 op0 c0 b0"},
		{outs: "0: StartViewChange v2; 2: StartViewChange v2"},
		{vote(2, 2), "2: DoViewChange v2", ""},
		{outs: "0: StartViewChange v2; 2: StartViewChange v2; 2: DoViewChange v2"},
		{born(1, vote(2, 1)), "", ""},
		{outs: "0: StartViewChange v2 knows[0 0 1]; 2: StartViewChange v2 knows[0 0 1]; 2: DoViewChange v2 knows[0 0 1]"},
		{vote(0, 3), "0: StartViewChange v3 knows[0 0 1]; 2: StartViewChange v3 knows[0 0 1]; 0: DoViewChange v3 knows[0 0 1]", "Changing v3 op0 c0 b0"},
	}))
	recovering := []step{}
	for range 20 {
		recovering = append(recovering, step{outs: "0: Recovery nonce9 born9 knows[0 0 9]; 1: Recovery nonce9 born9 knows[0 0 9]"})
	}
	goOn(t, "recovering", replica.Restart(2, 1, 9), 2, 3, slices.Concat(recovering, []step{
		{full(0, 0, 9, 0, 0, 0), "", ""},
		{response(1, 0, 9), "0: PrepareOK born9 knows[0 0 9]", "Normal v0 op0 c0 b0"},
	}, ticks(7), []step{{outs: "0: StartViewChange v1 born9 knows[0 0 9]; 1: StartViewChange v1 born9 knows[0 0 9]", status: "Changing v1 op0 c0 b0"}}))
}

// TestLastWord: what counts as a word, behind which 8 ticks have to pass.
func TestLastWord(t *testing.T) {
	for _, x := range []struct {
		what string
		in   message.Message
		word bool
	}{
		{"Prepare", prepare(0, 0, 1, 0), true},
		{"Prepare without the one ahead", prepare(0, 0, 3, 0), true},
		{"Commit", commit(0, 0, 0, 0), true},
		{"Commit of a greater view", commit(1, 1, 0, 0), true},
		{"Commit not from the primary", commit(1, 0, 0, 0), false},
		{"Commit of a late one", commit(0, 0, 0, 0), false},
		{"a log that is taken", newState(1, 0, 0, 1, 1), true},
		{"a log that isn't taken", newState(0, 0, 0, 0, 0), false},
		{"StartView", startView(0, 3, 0, 0, 0), true},
		{"a change that begins", vote(0, 3), true},
		{"a change that doesn't", vote(0, 0), false},
		{"PrepareOK", prepareOK(0, 0, 0), false},
		{"GetState", getState(0, 0, 0), false},
		{"Recovery", recovery(0, 5, 5), false},
		{"Request", request(1), false},
	} {
		r := replica.New(2, 1)
		if x.what == "Commit of a late one" {
			r.Receive(frame(t, born(5, vote(0, 0)), 3))
		}
		for range 7 {
			if outs := r.Tick(); len(outs) != 0 {
				t.Fatal(x.what, outs)
			}
		}
		r.Receive(frame(t, x.in, 3))
		view := r.Status().View
		for k := range 7 {
			r.Tick()
			if changed := r.Status().View == view+1; changed != !x.word {
				t.Error(x.what, k, r.Status())
				break
			}
		}
		r.Tick()
		if got := r.Status(); got.View != view+1 || got.State != replica.Changing {
			t.Error(x.what, got)
		}
	}
	// A Commit of the view that it changes to is one, too, and the beginning of a view by its primary.
	r := replica.New(2, 1)
	r.Receive(frame(t, vote(0, 1), 3))
	for range 30 {
		r.Tick()
		r.Receive(frame(t, commit(1, 1, 0, 0), 3))
	}
	if got := status(r.Status()); got != "Changing v1 op0 c0 b0" {
		t.Error(got)
	}
}

// TestCut: where the commit is 8 above the Base.
func TestCut(t *testing.T) {
	r := replica.New(1, 1)
	for op := 1; op <= 20; op++ {
		r.Receive(frame(t, prepare(0, 0, op, op), 3))
		l, base := r.Log(), op/8*8
		if got := r.Status(); got != (replica.Status{State: replica.Normal, Op: op, Commit: op, Base: base}) {
			t.Error(got)
		}
		if l.Base != base || l.State != state(base) || !slices.Equal(l.Entries, from(base, op)) || r.State() != state(op) {
			t.Error(op, l)
		}
	}
	r = replica.New(1, 1)
	goOn(t, "many at once", r, 1, 3, []step{
		{newState(0, 0, 0, 30, 29), "0: PrepareOK op30", "Normal v0 op30 c29 b24"},
		{newState(0, 0, 29, 31, 30), "0: PrepareOK op31", "Normal v0 op31 c30 b29"},
		{prepare(0, 0, 32, 31), "0: PrepareOK op32", "Normal v0 op32 c31 b29"},
		{newState(0, 0, 29, 40, 40), "0: PrepareOK op40", "Normal v0 op40 c40 b37"},
	})
	if l := r.Applied(); len(l) != 40 || l[39] != (replica.Applied{Op: 40, Entry: at(40)}) {
		t.Error(l)
	}
	if got := r.Log(); got.State != state(37) || !slices.Equal(got.Entries, from(37, 40)) {
		t.Error(got)
	}
}

// TestGreatestView: a view above MaxNumber has no messages.
func TestGreatestView(t *testing.T) {
	r := replica.New(1, 1)
	r.Receive(frame(t, vote(0, api.MaxNumber), 3))
	if got := r.Status(); got.View != api.MaxNumber || got.State != replica.Changing {
		t.Error(got)
	}
	for range 8 {
		r.Tick()
	}
	if got := r.Status(); got.View != api.MaxNumber+1 || len(r.Tick()) != 0 {
		t.Error(got)
	}
}

// TestKept: what is answered is new memory.
func TestKept(t *testing.T) {
	r := replica.New(1, 1)
	r.Receive(frame(t, prepare(0, 0, 1, 1), 3))
	r.Receive(frame(t, prepare(0, 0, 2, 1), 3))
	l := r.Log()
	l.Entries[0].Text = "spoilt"
	_ = append(l.Entries, at(9))
	applied := r.Applied()
	applied[0].Op = 7
	if got := r.Log(); !slices.Equal(got.Entries, from(0, 2)) {
		t.Error(got)
	}
	r.Receive(frame(t, prepare(0, 0, 3, 2), 3))
	if got := r.Applied(); !slices.Equal(got, []replica.Applied{{Op: 2, Entry: at(2)}}) {
		t.Error(got)
	}
	outs := r.Receive(frame(t, commit(0, 0, 3, 3), 3))
	outs[0].Frame = ""
	if got := r.Receive(frame(t, commit(0, 0, 3, 3), 3)); got[0].Frame == "" {
		t.Error(got)
	}
}
