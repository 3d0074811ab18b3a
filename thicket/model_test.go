package thicket_test

import (
	"maps"
	"math/rand"
	"slices"
	"strconv"
	"strings"
	"testing"

	"thicket/api"
	"thicket/thicket"
)

// madeChange is a change and the replica that makes it.
type madeChange struct {
	who  int
	text string
}

var modelPaths = []string{"sa", "sb", "fa", "ra", "ca", "ma", "mab", "ma/sa", "ma/fa", "ma/mb", "ma/mb/ca", "ma/mb/sa", "ma/mb/ra", "mab/mb", "mab/mb/fa"}

func randomChanges(source *rand.Rand, n int) []madeChange {
	var made []madeChange
	for range n {
		path := modelPaths[source.Intn(len(modelPaths))]
		value := string("abc"[source.Intn(3)])
		number := strconv.Itoa(source.Intn(9) - 4)
		options := map[byte][]string{
			's': {"+" + value, "+" + value, "-" + value}, 'f': {"^", "_"}, 'r': {"=" + value}, 'c': {">" + number}, 'm': {"!"},
		}[lastSegment(path)[0]]
		action := options[source.Intn(len(options))]
		if source.Intn(12) == 0 {
			action = "!"
		}
		made = append(made, madeChange{source.Intn(3), path + action})
	}
	return made
}

func lastSegment(path string) string { return path[strings.LastIndex(path, "/")+1:] }

// event is one as the section 'Words' has it; it saw events by their places in
// the model's list.
type event struct {
	path, action, operand string
	saw                   map[int]bool
}

// model tells values by the words of the document alone: it keeps all events,
// and asks of each which others cover it.
type model struct {
	events []event
	known  [3]map[int]bool
	sent   []modelFrame
}

// modelFrame brings what its sender knew; an acknowledgement knew nothing.
type modelFrame struct {
	to   int
	from int
	knew map[int]bool
}

func newModel() *model {
	return &model{known: [3]map[int]bool{{}, {}, {}}}
}

func (m *model) do(c madeChange) {
	at := strings.IndexAny(c.text, "+-^_=>!")
	e := event{c.text[:at], c.text[at : at+1], c.text[at+1:], maps.Clone(m.known[c.who])}
	m.known[c.who][len(m.events)] = true
	m.events = append(m.events, e)
}

func (m *model) send(i, j int) int {
	m.sent = append(m.sent, modelFrame{j, i, maps.Clone(m.known[i])})
	return len(m.sent)
}

func (m *model) deliver(f int) int {
	frame := m.sent[f-1]
	if frame.knew == nil {
		return 0
	}
	maps.Copy(m.known[frame.to], frame.knew)
	m.sent = append(m.sent, modelFrame{to: frame.from, from: frame.to})
	return len(m.sent)
}

// check holds all that a cluster tells against the model.
func (m *model) check(t *testing.T, x *thicket.Cluster) {
	t.Helper()
	for i := range 3 {
		knows(t, x, i, len(m.known[i]))
		alive := m.alive(i)
		for _, path := range modelPaths {
			tells(t, x, i, path, tellOf(alive, path))
		}
	}
}

func (m *model) covers(d event, k int) bool {
	e := m.events[k]
	switch {
	case !d.saw[k]:
		return false
	case d.action == "!":
		return d.path == e.path || strings.HasPrefix(e.path, d.path+"/")
	case d.path != e.path:
		return false
	case d.action == "+" || d.action == "-":
		return e.action == "+" && d.operand == e.operand
	case d.action == "^" || d.action == "_":
		return e.action == "^"
	}
	return d.action == "=" && e.action == "="
}

func (m *model) alive(i int) []event {
	var alive []event
	for k := range m.known[i] {
		covered := false
		for other := range m.known[i] {
			covered = covered || m.covers(m.events[other], k)
		}
		if strings.Contains("+^=>", m.events[k].action) && !covered {
			alive = append(alive, m.events[k])
		}
	}
	return alive
}

func tellOf(alive []event, path string) string {
	var list []string
	sum := 0
	for _, e := range alive {
		if rest, ok := strings.CutPrefix(e.path, path+"/"); ok {
			list = append(list, strings.Split(rest, "/")[0])
		}
		if e.path == path {
			list = append(list, e.operand)
			n, _ := strconv.Atoi(e.operand)
			sum += n
		}
	}
	switch lastSegment(path)[0] {
	case 'f':
		return strconv.Itoa(min(len(list), 1))
	case 'c':
		return strconv.Itoa(sum)
	}
	slices.Sort(list)
	return strings.Join(slices.Compact(list), ",")
}

func TestP4P5AsTheWordsSay(t *testing.T) {
	for seed := range 20 {
		x, m := cluster(t, 3, 10), newModel()
		for k, c := range randomChanges(rand.New(rand.NewSource(int64(seed))), api.MaxEvents) {
			do(t, x, c.who, c.text)
			m.do(c)
			knows(t, x, c.who, len(m.known[c.who]))
			if k%25 == 24 {
				m.check(t, x)
			}
		}
		if t.Failed() {
			t.Fatalf("seed %d", seed)
		}
	}
}

// step is a frame sent or delivered at random, at the cluster and the model.
func (m *model) step(t *testing.T, x *thicket.Cluster, source *rand.Rand) {
	t.Helper()
	got, want := 0, 0
	if f := source.Intn(len(m.sent) + 1); f > 0 && source.Intn(2) == 0 {
		got, want = deliver(t, x, f), m.deliver(f)
	} else {
		i := source.Intn(3)
		j := (i + 1 + source.Intn(2)) % 3
		got, want = send(t, x, i, j), m.send(i, j)
	}
	if got != want {
		t.Errorf("frame %d, want %d", got, want)
	}
}

// Frames are lost, come late, come twice: each time all is as the section
// 'Words' has it, of the events that came.
func TestP6P10AsTheWordsSay(t *testing.T) {
	for seed := range 60 {
		source := rand.New(rand.NewSource(int64(seed)))
		x, m := cluster(t, 3, []int{0, 1, 5, 50}[seed%4]), newModel()
		for k, c := range randomChanges(source, 150) {
			do(t, x, c.who, c.text)
			m.do(c)
			for range source.Intn(4) {
				m.step(t, x, source)
			}
			if k%10 == 9 {
				m.check(t, x)
			}
		}
		for range 2 {
			everyToEvery(t, x, 3)
		}
		for i := range 3 {
			knows(t, x, i, 150)
			m.known[i] = m.known[0]
		}
		for k := range m.events {
			m.known[0][k] = true
		}
		m.check(t, x)
		if t.Failed() {
			t.Fatalf("seed %d", seed)
		}
	}
}
