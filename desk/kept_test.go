package desk_test

import (
	"reflect"
	"testing"

	"pivot/api"
	"pivot/desk"
)

// wantKept: so many of the attempts that were found good are still known.
func wantKept(t *testing.T, d *desk.Desk, want int) {
	t.Helper()
	if got := reflect.ValueOf(d).Elem().FieldByName("past").FieldByName("known").Len(); got != want {
		t.Fatalf("%d attempts are kept, want %d", got, want)
	}
}

// An attempt that was found good is kept as long as one runs that began ahead of
// its end, and no longer, however that one ends.
func TestWhichAttemptsAreKept(t *testing.T) {
	for how, kept := range map[string]int{"ended": 2, "retried": 1, "killed": 1, "cancelled": 1} {
		d := open(t, config(3, 8, 20))
		wantSubmit(t, d, raises(1), 1, api.OK)
		wantAttempt(t, d, 2, 1, 4)
		wantKept(t, d, 0)
		wantSubmit(t, d, raises(1), 2, api.OK)
		wantPick(t, d, 2, api.Took, 2)
		for ticket := 3; ticket <= 5; ticket++ {
			wantSubmit(t, d, tells(ticket), ticket, api.OK)
			wantAttempt(t, d, 0, ticket, 2)
			wantKept(t, d, ticket-2)
		}
		key := 9
		if how == "retried" {
			key = 1
		}
		wantSubmit(t, d, puts(key, 6), 6, api.OK)
		wantAttempt(t, d, 0, 6, 2)
		wantSubmit(t, d, tells(7), 7, api.OK)
		wantPick(t, d, 0, api.Took, 7)
		wantSubmit(t, d, tells(8), 8, api.OK)
		wantAttempt(t, d, 1, 8, 2)
		wantKept(t, d, 5)
		switch how {
		case "ended":
			wantEnded(t, d, 2, 2)
		case "retried":
			wantRetried(t, d, 2, 2, 6)
		case "killed":
			wantKill(t, d, 2, api.OK)
		case "cancelled":
			wantCancel(t, d, 2, api.OK)
		}
		wantKept(t, d, kept)
		wantEnded(t, d, 0, 7)
		wantKept(t, d, 0)
	}
}

// The steps of a job are kept until it has come to its end.
func TestWhichStepsAreKept(t *testing.T) {
	d := open(t, config(2, 8, 20))
	fill(t, d, 4, 1)
	wantPick(t, d, 0, api.Took, 1)
	wantAttempt(t, d, 1, 2, 2)
	wantCancel(t, d, 3, api.OK)
	tasks := reflect.ValueOf(d).Elem().FieldByName("tasks")
	for i, want := range []int{2, 0, 0, 2} {
		if got := tasks.Index(i).Elem().FieldByName("steps").Len(); got != want {
			t.Errorf("of job %d %d steps are kept, want %d", i+1, got, want)
		}
	}
}
