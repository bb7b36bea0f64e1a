package layers

import (
	"sync"

	"upshot/facts"
	"upshot/program"
)

// room is how many changes may wait between two layers, so that these do not take turns for each single one.
const room = 64

// Pipe is a program's layers, each behind those that it looks at.
type Pipe struct {
	layers []layer
	byName map[string]layer
}

// New makes the pipe of some layers, which work on the store.
func New(list []program.Layer, store facts.Store) *Pipe {
	p := &Pipe{byName: map[string]layer{}}
	for _, from := range list {
		made := newLayer(from, store)
		p.layers = append(p.layers, made)
		for _, clause := range from.Rules {
			p.byName[clause.Head.Name] = made
		}
	}
	return p
}

// Fill lays all that follows, when the store has the base facts alone, and these are what came.
func (p *Pipe) Fill(base []facts.Change) {
	var ended sync.WaitGroup
	ended.Add(1 + len(p.layers))
	front := make(chan facts.Change, room)
	go func() {
		defer ended.Done()
		send(front, base)
	}()
	last := front
	for _, l := range p.layers {
		from, to := last, make(chan facts.Change, room)
		go func() {
			defer ended.Done()
			work(l, from, to)
		}()
		last = to
	}
	receive(last)
	ended.Wait()
}

// work waits for all that comes from the layers ahead, for not before then are they done. As all that there is
// has only just come, the layer finds it in the store, and what came has but to go on.
func work(l layer, from <-chan facts.Change, to chan<- facts.Change) {
	came := receive(from)
	send(to, append(came, l.fill()...))
}

func receive(from <-chan facts.Change) []facts.Change {
	var changes []facts.Change
	for change := range from {
		changes = append(changes, change)
	}
	return changes
}

func send(to chan<- facts.Change, changes []facts.Change) {
	for _, change := range changes {
		to <- change
	}
	close(to)
}

// Support tells in how many ways a tuple of a derived name follows.
func (p *Pipe) Support(name string, tuple facts.Tuple) facts.Count {
	return p.byName[name].support(name, tuple)
}
