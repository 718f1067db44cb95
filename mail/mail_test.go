package mail_test

import (
	"fmt"
	"math"
	"math/rand"
	"slices"
	"strings"
	"testing"

	"klaxon/api"
	"klaxon/mail"
)

// notes makes notes of their receivers, each with two alerts.
func notes(words string) []api.Note {
	var l []api.Note
	for _, w := range strings.Fields(words) {
		l = append(l, api.Note{To: w, Group: "{}", Alerts: []string{w + "1", w + "2"}})
	}
	return l
}

// told is who the notes are to; another note than those of notes tells all of itself.
func told(l []api.Note) string {
	var words []string
	for _, n := range l {
		if want := notes(n.To); len(want) == 1 && n.Group == "{}" && slices.Equal(n.Alerts, want[0].Alerts) {
			words = append(words, n.To)
			continue
		}
		words = append(words, fmt.Sprintf("%+v", n))
	}
	return strings.Join(words, " ")
}

func check(t *testing.T, b *mail.Box, all string, dropped int) {
	t.Helper()
	for range 2 {
		if got := told(b.All()); got != all || b.Len() != len(strings.Fields(all)) || b.Dropped() != dropped {
			t.Error("waiting", got, b.Len(), "dropped", b.Dropped())
		}
	}
}

func take(t *testing.T, b *mail.Box, want string) {
	t.Helper()
	if got, ok := b.Take(); !ok || told([]api.Note{got}) != want {
		t.Error("Take", got, ok)
	}
}

func takeNone(t *testing.T, b *mail.Box) {
	t.Helper()
	if got, ok := b.Take(); ok || fmt.Sprintf("%+v", got) != fmt.Sprintf("%+v", api.Note{}) {
		t.Error("Take of none", got, ok)
	}
}

func TestRun(t *testing.T) {
	b := mail.New(2)
	check(t, b, "", 0)
	takeNone(t, b)
	if got := b.Put(notes("a b c")...); got != 1 {
		t.Error("Put", got)
	}
	check(t, b, "b c", 1)
	take(t, b, "b")
	check(t, b, "c", 1)
	if got := b.Put(notes("d")...); got != 0 {
		t.Error("Put", got)
	}
	if got := b.Put(notes("e f g h")...); got != 4 {
		t.Error("Put of more than there is room for", got)
	}
	check(t, b, "g h", 5)
	take(t, b, "g")
	take(t, b, "h")
	takeNone(t, b)
	takeNone(t, b)
	check(t, b, "", 5)
	if got := b.Put(); got != 0 {
		t.Error("Put of none", got)
	}
	b.Put(api.Note{})
	if got, ok := b.Take(); !ok || got.To != "" || len(got.Alerts) != 0 {
		t.Error("a zero note", got, ok)
	}
}

func TestRoom(t *testing.T) {
	many := notes(strings.Repeat("a ", 20))
	for room, want := range map[int]int{math.MinInt: 1, -1: 1, 0: 1, 1: 1, 2: 2, 7: 7, 8: 8, 9: 8, 1 << 40: 8, math.MaxInt: 8} {
		b := mail.New(room)
		if got := b.Put(many...); got != 20-want || b.Len() != want || b.Dropped() != 20-want {
			t.Error("room", room, got, b.Len())
		}
	}
}

// What was put was taken, was dropped, or waits.
func TestAgainstList(t *testing.T) {
	dice := rand.New(rand.NewSource(19))
	for range 300 {
		room := 1 + dice.Intn(8)
		b := mail.New(room)
		var waiting []string
		put, taken, dropped := 0, 0, 0
		for range 40 {
			switch dice.Intn(3) {
			case 0:
				n := dice.Intn(5)
				var words []string
				lost := 0
				for range n {
					put++
					words = append(words, fmt.Sprint("n", put))
				}
				waiting = append(waiting, words...)
				for len(waiting) > room {
					waiting = waiting[1:]
					lost++
				}
				dropped += lost
				if got := b.Put(notes(strings.Join(words, " "))...); got != lost {
					t.Fatal("Put", got, lost)
				}
			case 1:
				got, ok := b.Take()
				if ok != (len(waiting) > 0) || ok && got.To != waiting[0] {
					t.Fatal("Take", got, ok)
				}
				if ok {
					waiting = waiting[1:]
					taken++
				}
			}
			check(t, b, strings.Join(waiting, " "), dropped)
			if put != taken+b.Dropped()+b.Len() {
				t.Fatal("put", put, "taken", taken, "dropped", b.Dropped(), "waiting", b.Len())
			}
		}
	}
}

func TestMemory(t *testing.T) {
	b := mail.New(3)
	given := notes("a b")
	given[0].Alerts = append(given[0].Alerts, "more")[:2]
	b.Put(given...)
	given[0].Alerts[0] = "spoiled"
	given[1] = api.Note{}
	check(t, b, "a b", 0)
	all := b.All()
	all[0].Alerts[0] = "spoiled"
	all[1].To = "spoiled"
	all[1].Alerts = append(all[1].Alerts[:1], "spoiled")
	check(t, b, "a b", 0)
	same := notes("c")
	b.Take()
	b.Put(same[0], same[0])
	b.Take()
	first, _ := b.Take()
	first.Alerts[0] = "spoiled"
	take(t, b, "c")
}
