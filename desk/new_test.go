package desk_test

import (
	"slices"
	"testing"

	"pivot/api"
	"pivot/desk"
)

func wantNoDesk(t *testing.T, c api.Config) {
	t.Helper()
	if d, e := desk.New(c); d != nil || e != api.ErrConfig {
		t.Errorf("New(%+v): %v, %d, want ErrConfig", c, d, e)
	}
}

// P5: every configuration at the bounds and beside them.
func TestNewAtTheBounds(t *testing.T) {
	for workers := -1; workers <= 6; workers++ {
		for queue := -1; queue <= 10; queue++ {
			for _, fuel := range []int{-1, 0, 1, 2, 100, 199, 200, 201, 202} {
				for patience := -2; patience <= 7; patience++ {
					c := api.Config{Workers: workers, Queue: queue, Fuel: fuel, Patience: patience}
					may := 1 <= workers && workers <= 4 && 1 <= queue && queue <= 8 && 1 <= fuel && fuel <= 200 && 0 <= patience && patience <= 5
					if may {
						open(t, c)
					} else {
						wantNoDesk(t, c)
					}
				}
			}
		}
	}
}

// P5, P1: one number that is far outside is enough.
func TestNewFarOutside(t *testing.T) {
	for _, n := range outside() {
		wantNoDesk(t, api.Config{Workers: n, Queue: 1, Fuel: 1})
		wantNoDesk(t, api.Config{Workers: 1, Queue: n, Fuel: 1})
		wantNoDesk(t, api.Config{Workers: 1, Queue: 1, Fuel: n})
		wantNoDesk(t, api.Config{Workers: 1, Queue: 1, Fuel: 1, Patience: n})
		wantNoDesk(t, api.Config{Workers: n, Queue: n, Fuel: n, Patience: n})
	}
}

// P5: a new desk has an empty map, no jobs, and as many workers, all idle.
func TestANewDesk(t *testing.T) {
	for workers := 1; workers <= 4; workers++ {
		d := open(t, config(workers, 3, 9))
		wantMap(t, d)
		for _, ticket := range slices.Concat(outside(), []int{0, 1, 2}) {
			wantNoTicket(t, d, ticket)
			wantCancel(t, d, ticket, api.ErrTicket)
		}
		for worker := -5; worker <= 9; worker++ {
			note, e := d.Pick(worker)
			want := api.ErrWorker
			if 0 <= worker && worker < workers {
				want = api.OK
			}
			if note != (api.Note{}) || e != want {
				t.Errorf("Pick(%d) of %d idle workers = %+v, %d, want nothing, %d", worker, workers, note, e, want)
			}
		}
		wantSubmit(t, d, nil, 1, api.OK)
	}
}

// P5: the desk's numbers are those of its configuration, and none of another's:
// the queue and the fuel tell.
func TestADeskKeepsToItsConfiguration(t *testing.T) {
	narrow := open(t, config(1, 1, 1))
	wide := open(t, config(4, 8, 200))
	for ticket := 1; ticket <= 8; ticket++ {
		wantSubmit(t, wide, tells(ticket), ticket, api.OK)
	}
	wantSubmit(t, wide, nil, 0, api.ErrFull)
	wantSubmit(t, narrow, tells(1), 1, api.OK)
	wantSubmit(t, narrow, nil, 0, api.ErrFull)
	wantAttempt(t, narrow, 0, 1, 1)
	wantPoll(t, narrow, 1, api.Faulted, 1)
	wantAttempt(t, wide, 3, 1, 2)
	wantPoll(t, wide, 1, api.Committed, 1, 1)
}
