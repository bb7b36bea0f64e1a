package upshot_test

import (
	"runtime"
	"sync"
	"testing"
	"time"

	"upshot/upshot"
)

const deep = "h(X):-g(X). g(X):-f(X). f(X):-e(X),!c(X). e(X):-d(X). d(X):-c(X),b(X). d(X):-e(X). c(X):-b(X),!a(X). b(X):-a(X). a(1). a(2)."

// When Load answers, all that it has set going is at its end.
func TestLoadLeavesNothingRunning(t *testing.T) {
	before := runtime.NumGoroutine()
	for range 200 {
		load(t, deep)
		upshot.Load("p(X):-q(X),!p(X).")
	}
	// One that has told its end may need a moment to be gone.
	for range 1000 {
		if runtime.NumGoroutine() <= before {
			return
		}
		time.Sleep(time.Millisecond)
	}
	t.Errorf("there are %d goroutines, and were %d before", runtime.NumGoroutine(), before)
}

// Engines have nothing to do with one another.
func TestLoadsAtTheSameTime(t *testing.T) {
	want := load(t, deep).Dump()
	var group sync.WaitGroup
	for range 8 {
		group.Add(1)
		go func() {
			defer group.Done()
			for range 50 {
				engine, _, _ := upshot.Load(deep)
				if got := engine.Dump(); got != want {
					t.Errorf("Dump is %q, want %q", got, want)
				}
			}
		}()
	}
	group.Wait()
}

// When Apply answers, all that it has set going is at its end.
func TestApplyLeavesNothingRunning(t *testing.T) {
	before := runtime.NumGoroutine()
	engine := load(t, deep)
	for range 200 {
		engine.Apply(changesOf("a(3) -a(1)")...)
		engine.Apply(changesOf("-a(3) a(1)")...)
		engine.Apply()
		engine.Apply(changesOf("a(3) b(3)")...)
	}
	for range 1000 {
		if runtime.NumGoroutine() <= before {
			return
		}
		time.Sleep(time.Millisecond)
	}
	t.Errorf("there are %d goroutines, and were %d before", runtime.NumGoroutine(), before)
}

// Engines that are at work at the same time have nothing to do with one another.
func TestAppliesAtTheSameTime(t *testing.T) {
	var group sync.WaitGroup
	for range 8 {
		group.Add(1)
		go func() {
			defer group.Done()
			engine, _, _ := upshot.Load(deep)
			for range 50 {
				checkApply(t, engine, "a(3) -a(1)", "-a(1) a(3) -b(1) b(3)")
				checkApply(t, engine, "-a(3) a(1)", "a(1) -a(3) b(1) -b(3)")
			}
		}()
	}
	group.Wait()
}
