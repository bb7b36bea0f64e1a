package layers

import (
	"sync"

	"upshot/facts"
	"upshot/program"
)

// room is how many changes may wait between two layers, so that these do not take turns for each single one.
const room = 64

// Pipe is a program's layers, each behind those that it looks at.
type Pipe struct {
	layers []layer
	byName map[string]layer
}

// New makes the pipe of some layers, which work on the store.
func New(list []program.Layer, store facts.Store) *Pipe {
	p := &Pipe{byName: map[string]layer{}}
	for _, from := range list {
		made := newLayer(from, store)
		p.layers = append(p.layers, made)
		for _, clause := range from.Rules {
			p.byName[clause.Head.Name] = made
		}
	}
	return p
}

// Fill lays all that follows, when the store has the base facts alone, and these are what came.
func (p *Pipe) Fill(base []facts.Change) {
	// As all that there is has only just come, a layer finds it in the store.
	p.run(base, func(l layer, _ []facts.Change) []facts.Change { return l.fill() })
}

// Carry takes changes of base facts, which have been made in the store, through the layers. It lists these and what
// has changed by them.
func (p *Pipe) Carry(base []facts.Change) []facts.Change { return p.run(base, layer.carry) }

// run lets each layer do its part, when those ahead of it have, and lists all that came through the pipe.
func (p *Pipe) run(base []facts.Change, part func(layer, []facts.Change) []facts.Change) []facts.Change {
	var ended sync.WaitGroup
	ended.Add(1 + len(p.layers))
	front := make(chan facts.Change, room)
	go func() {
		defer ended.Done()
		send(front, base)
	}()
	last := front
	for _, l := range p.layers {
		from, to := last, make(chan facts.Change, room)
		go func() {
			defer ended.Done()
			work(l, part, from, to)
		}()
		last = to
	}
	changes := receive(last)
	ended.Wait()
	return changes
}

// work waits for all that comes from the layers ahead, for not before then are they done; so what came goes on
// no sooner than what the layer adds itself.
func work(l layer, part func(layer, []facts.Change) []facts.Change, from <-chan facts.Change, to chan<- facts.Change) {
	came := receive(from)
	send(to, append(came, part(l, came)...))
}

func receive(from <-chan facts.Change) []facts.Change {
	var changes []facts.Change
	for change := range from {
		changes = append(changes, change)
	}
	return changes
}

func send(to chan<- facts.Change, changes []facts.Change) {
	for _, change := range changes {
		to <- change
	}
	close(to)
}

// Support tells in how many ways a tuple of a derived name follows.
func (p *Pipe) Support(name string, tuple facts.Tuple) facts.Count {
	return p.byName[name].support(name, tuple)
}
