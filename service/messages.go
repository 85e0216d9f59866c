package service

import (
	"errand/api"
	"errand/message"
	"errand/value"
	"errand/wire"
)

// WriteCall answers the message of a call; it gives up with a Fault if there is no such procedure, or arg is no value of its argument's type.
func WriteCall(kind int, proc int, arg []api.Item) message.Message {
	argument, _ := types(kind, proc)
	head := string(wire.AppendTwo(nil, proc))
	return message.Message(head + value.Write(argument, arg))
}

// ReadCall tells the procedure and the argument that a call's message has.
func ReadCall(kind int, m message.Message) (int, []api.Item) {
	r := wire.Reader{Left: string(m), Wrong: api.ErrBytes}
	proc := r.TwoBytes()
	argument, _ := types(kind, proc)
	return proc, value.Read(argument, r.Left)
}

// WriteResult answers the message of a result.
func WriteResult(kind int, proc int, result []api.Item) message.Message {
	_, t := types(kind, proc)
	return message.Message(value.Write(t, result))
}

// ReadResult tells the result that a message has.
func ReadResult(kind int, proc int, m message.Message) []api.Item {
	_, t := types(kind, proc)
	return value.Read(t, string(m))
}
