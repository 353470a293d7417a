package motif

import "testing"

func TestAttemptTellsItsOwnPanic(t *testing.T) {
	if stop := attempt(func() { panic(giveUp{ErrDeep, 7}) }); stop != (giveUp{ErrDeep, 7}) {
		t.Errorf("a panic of the program's own: %v", stop)
	}
	if stop := attempt(func() {}); stop != (giveUp{OK, 0}) {
		t.Errorf("no panic: %v", stop)
	}
}

func TestAttemptCatchesNoOtherPanic(t *testing.T) {
	defer func() {
		if caught := recover(); caught != "another" {
			t.Errorf("another panic came out as %v", caught)
		}
	}()
	attempt(func() { panic("another") })
	t.Error("another panic was caught")
}
