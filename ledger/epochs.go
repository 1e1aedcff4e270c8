package ledger

import "arboretum/api"

// epochs are the accepted one, which was promised, and the current one, whose history the ledger has.
type epochs struct {
	accepted, current int
}

// Accepted is the epoch that was promised.
func (x *epochs) Accepted() int { return x.accepted }

// Current is the epoch whose history this is.
func (x *epochs) Current() int { return x.current }

func (x *epochs) right() bool { return x.current <= x.accepted && x.accepted <= api.MaxEpoch }

func (x *epochs) mayAccept(epoch int) bool { return x.accepted <= epoch && epoch <= api.MaxEpoch }

func (x *epochs) mayAdopt(epoch int) bool { return x.current <= epoch && epoch <= x.accepted }
