package service

import (
	"slices"

	"errand/api"
)

type desk struct {
	drawers [api.Drawers][]api.Item // the numbers of each list, without their count
}

// Do puts a list into a drawer: the argument is the drawer's number, the list's count, and its numbers.
func (d *desk) Do(proc int, arg []api.Item) []api.Item {
	drawer := &d.drawers[arg[0].N]
	lay := *drawer
	// A copy: the argument goes into the log too.
	*drawer = slices.Clone(arg[2:])
	if len(lay) == 0 {
		return []api.Item{{N: 0}, {N: 0}}
	}
	return append([]api.Item{{N: 1}, {N: len(lay)}}, lay...)
}
