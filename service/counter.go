package service

import "errand/api"

// counter counts in sixteen bits, which wrap round where the document says modulo 65536.
type counter struct {
	number uint16
}

func (c *counter) Do(proc int, arg []api.Item) []api.Item {
	if proc == 0 {
		return c.add(arg[0].N)
	}
	return c.tell(arg[0].N == 1)
}

func (c *counter) add(n int) []api.Item {
	c.number += uint16(n)
	return []api.Item{{N: int(c.number)}}
}

func (c *counter) tell(beginsAnew bool) []api.Item {
	told := []api.Item{{N: int(c.number)}}
	if beginsAnew {
		c.number = 0
	}
	return told
}
