// Package clients: what each client of a screen has handed in, and what of it waits.
package clients

import (
	"slices"

	"panes/api"
	"panes/bounds"
)

// Transaction: operations that are done together, and what they cost.
type Transaction struct {
	Ops  []api.Op
	Cost int
}

// Client has a queue of transactions that wait, the first one first.
type Client struct {
	queue  []Transaction
	credit int      // what it may still have admitted
	owned  surfaces // as they will be when all that waits is done
}

// Submit lets a transaction wait behind the others, if it may be and there is room (P8).
func (c *Client) Submit(ops []api.Op, limits api.Config) api.Errno {
	if !bounds.Within(len(ops), 1, api.MaxOps) {
		return api.ErrInvalid
	}
	owned, ok := c.owned.after(ops, limits.Surfaces)
	if !ok || cost(ops) > limits.Most {
		return api.ErrInvalid
	}
	if len(c.queue) >= limits.Queue {
		return api.ErrBusy
	}
	c.queue = append(c.queue, Transaction{Ops: copies(ops), Cost: cost(ops)})
	c.owned = owned
	return api.OK
}

// Admit gives the client a tick's credit, and takes from its queue what that is enough for, the first one first. Credit is not saved up while nothing waits.
func (c *Client) Admit(quantum int) []Transaction {
	c.credit += quantum
	count := 0
	for count < len(c.queue) && c.queue[count].Cost <= c.credit {
		c.credit -= c.queue[count].Cost
		count++
	}
	admitted := slices.Clone(c.queue[:count])
	c.queue = slices.Delete(c.queue, 0, count)
	if len(c.queue) == 0 {
		c.credit = 0
	}
	return admitted
}
