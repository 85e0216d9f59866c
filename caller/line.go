package caller

import (
	"errand/api"
	"errand/message"
)

// line is what a client knows of one of its lines.
type line struct {
	state  int
	seq    int        // of its last call in this life, 0: there was none
	result []api.Item // of that call, if it is done
	call   call       // that call, while it is under way
}

// call is what a client knows of a call that is under way.
type call struct {
	uid     int
	proc    int
	message message.Message
	acked   int             // how many of its pieces were acknowledged, from the first on
	result  message.Message // what has come of the result's, from the first piece on
	wait    int             // how many ticks until it sends again
	tries   int             // how often it may still do that
}

func (l *line) begin(c call) {
	*l = line{state: api.Waiting, seq: l.seq + 1, call: c}
}

func (l *line) end(state int) {
	*l = line{state: state, seq: l.seq}
}

func (l *line) endWith(result []api.Item) {
	l.end(api.Done)
	l.result = result
}
