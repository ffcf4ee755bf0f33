package lookup

// cancel ends a lookup from within: CNAMEs may go round for ever.
type cancel struct {
	done chan struct{}
}

func newCancel() *cancel {
	return &cancel{done: make(chan struct{})}
}

// call asks the lookup to end. A channel can be closed but once.
func (c *cancel) call() {
	if !c.asked() {
		close(c.done)
	}
}

// asked tells whether the lookup has been asked to end.
func (c *cancel) asked() bool {
	select {
	case <-c.done:
		return true
	default:
		return false
	}
}
