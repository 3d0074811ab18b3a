package thicket_test

import (
	"maps"
	"math/rand"
	"slices"
	"strconv"
	"strings"
	"testing"

	"thicket/api"
	"thicket/thicket"
)

// madeChange is a change and the replica that makes it.
type madeChange struct {
	who  int
	text string
}

var modelPaths = []string{"sa", "sb", "fa", "ra", "ca", "ma", "mab", "ma/sa", "ma/fa", "ma/mb", "ma/mb/ca", "ma/mb/sa", "ma/mb/ra", "mab/mb", "mab/mb/fa"}

func randomChanges(source *rand.Rand, n int) []madeChange {
	var made []madeChange
	for range n {
		path := modelPaths[source.Intn(len(modelPaths))]
		value := string("abc"[source.Intn(3)])
		number := strconv.Itoa(source.Intn(9) - 4)
		options := map[byte][]string{
			's': {"+" + value, "+" + value, "-" + value}, 'f': {"^", "_"}, 'r': {"=" + value}, 'c': {">" + number}, 'm': {"!"},
		}[lastSegment(path)[0]]
		action := options[source.Intn(len(options))]
		if source.Intn(12) == 0 {
			action = "!"
		}
		made = append(made, madeChange{source.Intn(3), path + action})
	}
	return made
}

func lastSegment(path string) string { return path[strings.LastIndex(path, "/")+1:] }

// event is one as the section 'Words' has it. It covers events by their places
// in the model's list.
type event struct {
	path, action, operand string
	covers                []int
}

// model tells values by the words of the document alone: it keeps all events,
// and which others each covers. Of pieces it keeps the numbers.
type model struct {
	room     int
	events   []event
	known    [3]map[int]bool
	sent     []modelFrame
	made     [3]int          // how many pieces a replica has made
	kept     [3][]int        // which of these it keeps
	pushed   [3]int          // how many times it has crashed, or dropped one beyond its room
	answered [3][3][]int     // the frames of which it has had the acknowledgement
	tears    [3]*int         // how many bytes of its next write are written
	torn     [3]map[int]bool // what it would know, had it not gone down; nil if it is up
}

// modelFrame brings what its sender knew; or it is the acknowledgement of a frame.
type modelFrame struct {
	to, from     int
	knew         map[int]bool
	made, pushed int
	of           int
}

func newModel(room int) *model {
	return &model{room: room, known: [3]map[int]bool{{}, {}, {}}}
}

func (m *model) do(c madeChange) api.Errno {
	if m.torn[c.who] != nil {
		return api.ErrDown
	}
	at := strings.IndexAny(c.text, "+-^_=>!")
	e := event{path: c.text[:at], action: c.text[at : at+1], operand: c.text[at+1:]}
	for k := range m.known[c.who] {
		if e.isFor(m.events[k]) {
			e.covers = append(e.covers, k)
		}
	}
	m.events = append(m.events, e)
	return m.learn(c.who, map[int]bool{len(m.events) - 1: true})
}

// learn makes a piece of what is new, if the write is not torn.
func (m *model) learn(i int, more map[int]bool) api.Errno {
	now := maps.Clone(m.known[i])
	maps.Copy(now, more)
	if len(now) == len(m.known[i]) {
		return api.OK
	}
	if m.tears[i] != nil {
		m.torn[i] = now
		return api.ErrCrashed
	}
	m.known[i] = now
	m.made[i]++
	m.kept[i] = append(m.kept[i], m.made[i])
	if len(m.kept[i]) > m.room {
		m.kept[i] = m.kept[i][1:]
		m.pushed[i]++
	}
	return api.OK
}

// crash loses what is kept for neighbours, and what these have acknowledged.
func (m *model) crash(i int) {
	m.kept[i] = nil
	m.answered[i] = [3][]int{}
	m.pushed[i]++
}

func (m *model) tear(t *testing.T, x *thicket.Cluster, i, bytes int) {
	t.Helper()
	tear(t, x, i, bytes)
	m.tears[i] = &bytes
}

// wake: how many events the replica knows then tells whether its torn write was
// whole, where that is the program's business.
func (m *model) wake(t *testing.T, x *thicket.Cluster, i int) {
	t.Helper()
	wake(t, x, i)
	knows, _ := x.Knows(i)
	former, latter := len(m.known[i]), len(m.torn[i])
	bytes := *m.tears[i]
	most := 200 + 80*len(m.alive(m.torn[i]))
	if knows != former && knows != latter || bytes < 1 && knows != former || bytes >= most && knows != latter {
		t.Errorf("%d events known behind %d bytes of a write, not %d or %d", knows, bytes, former, latter)
	}
	if knows == latter {
		m.known[i] = m.torn[i]
	}
	m.torn[i], m.tears[i] = nil, nil
	m.crash(i)
}

func (m *model) send(i, j int) (int, api.Errno) {
	if m.torn[i] != nil || m.torn[j] != nil {
		return 0, api.ErrDown
	}
	m.sent = append(m.sent, modelFrame{to: j, from: i, knew: maps.Clone(m.known[i]), made: m.made[i], pushed: m.pushed[i]})
	return len(m.sent), api.OK
}

func (m *model) deliver(f int) (int, api.Errno) {
	frame := m.sent[f-1]
	if m.torn[frame.to] != nil {
		return 0, api.ErrDown
	}
	if frame.of > 0 {
		m.answered[frame.to][frame.from] = append(m.answered[frame.to][frame.from], frame.of)
		return 0, api.OK
	}
	if e := m.learn(frame.to, frame.knew); e != api.OK {
		return 0, e
	}
	m.sent = append(m.sent, modelFrame{to: frame.from, from: frame.to, of: f})
	return len(m.sent), api.OK
}

func (m *model) tick(i int) {
	m.kept[i] = slices.DeleteFunc(m.kept[i], func(piece int) bool {
		for j := range 3 {
			has := func(f int) bool { return m.sent[f-1].made >= piece }
			if i != j && !slices.ContainsFunc(m.answered[i][j], has) {
				return false
			}
		}
		return true
	})
}

// most is how many bytes the last frame may have.
func (m *model) most() int {
	last := m.sent[len(m.sent)-1]
	if last.of > 0 {
		return 80
	}
	alive := m.alive(last.knew)
	most := 200 + 80*len(alive)
	for _, f := range m.answered[last.from][last.to] {
		earlier := m.sent[f-1]
		if earlier.pushed != last.pushed {
			continue
		}
		bytes := 80 + 80*(len(last.knew)-len(earlier.knew))
		for k := range m.alive(earlier.knew) {
			if _, still := alive[k]; !still {
				bytes += 8
			}
		}
		most = min(most, bytes)
	}
	return most
}

// check holds all that a cluster tells against the model.
func (m *model) check(t *testing.T, x *thicket.Cluster) {
	t.Helper()
	for i := range 3 {
		if m.torn[i] != nil {
			isDown(t, x, i)
			continue
		}
		knows(t, x, i, len(m.known[i]))
		alive := m.alive(m.known[i])
		for _, path := range modelPaths {
			tells(t, x, i, path, tellOf(alive, path))
		}
	}
}

// isFor: an event covers another one, if it saw it.
func (d event) isFor(e event) bool {
	switch {
	case !strings.Contains("+^=>", e.action):
		return false
	case d.action == "!":
		return d.path == e.path || strings.HasPrefix(e.path, d.path+"/")
	case d.path != e.path:
		return false
	case d.action == "+" || d.action == "-":
		return e.action == "+" && d.operand == e.operand
	case d.action == "^" || d.action == "_":
		return e.action == "^"
	}
	return d.action == "=" && e.action == "="
}

// alive is the effects that are alive where these events are known, by their
// places.
func (m *model) alive(known map[int]bool) map[int]event {
	alive := map[int]event{}
	for k := range known {
		if strings.Contains("+^=>", m.events[k].action) {
			alive[k] = m.events[k]
		}
	}
	for k := range known {
		for _, covered := range m.events[k].covers {
			delete(alive, covered)
		}
	}
	return alive
}

func tellOf(alive map[int]event, path string) string {
	var list []string
	sum := 0
	for _, e := range alive {
		if rest, ok := strings.CutPrefix(e.path, path+"/"); ok {
			list = append(list, strings.Split(rest, "/")[0])
		}
		if e.path == path {
			list = append(list, e.operand)
			n, _ := strconv.Atoi(e.operand)
			sum += n
		}
	}
	switch lastSegment(path)[0] {
	case 'f':
		return strconv.Itoa(min(len(list), 1))
	case 'c':
		return strconv.Itoa(sum)
	}
	slices.Sort(list)
	return strings.Join(slices.Compact(list), ",")
}

func TestP4P5AsTheWordsSay(t *testing.T) {
	for seed := range 20 {
		x, m := cluster(t, 3, 10), newModel(10)
		for k, c := range randomChanges(rand.New(rand.NewSource(int64(seed))), api.MaxEvents) {
			do(t, x, c.who, c.text)
			m.do(c)
			knows(t, x, c.who, len(m.known[c.who]))
			if k%25 == 24 {
				m.check(t, x)
			}
		}
		if t.Failed() {
			t.Fatalf("seed %d", seed)
		}
	}
}

// someFrame is one of the last, mostly, so that acknowledgements come while they
// are of use; 0 if there is none.
func (m *model) someFrame(source *rand.Rand) int {
	lately := len(m.sent)
	if source.Intn(4) > 0 {
		lately = min(lately, 4)
	}
	return len(m.sent) - source.Intn(lately+1)
}

// step is a frame sent or delivered at random, at the cluster and the model.
func (m *model) step(t *testing.T, x *thicket.Cluster, source *rand.Rand) {
	t.Helper()
	var got, want int
	var e, wantE api.Errno
	if f := m.someFrame(source); f > 0 && source.Intn(3) > 0 {
		got, e = x.Deliver(f)
		want, wantE = m.deliver(f)
	} else {
		i := source.Intn(3)
		j := (i + 1 + source.Intn(2)) % 3
		got, e = x.Send(i, j)
		want, wantE = m.send(i, j)
	}
	if got != want || e != wantE {
		t.Errorf("frame %d, %d, want %d, %d", got, e, want, wantE)
	}
	if got > 0 {
		isShort(t, x, got, m.most())
	}
	if i := source.Intn(9); i < 3 && m.torn[i] == nil {
		tick(t, x, i)
		m.tick(i)
	}
	for i := range 3 {
		if m.torn[i] == nil {
			waits(t, x, i, len(m.kept[i]))
		}
	}
}

// random makes changes and sends frames, at the cluster and the model, and lets
// something else happen in between.
func (m *model) random(t *testing.T, x *thicket.Cluster, source *rand.Rand, more func()) {
	t.Helper()
	for k, c := range randomChanges(source, 150) {
		refuses(t, x, c.who, c.text, m.do(c))
		for range source.Intn(4) {
			m.step(t, x, source)
		}
		more()
		if k%10 == 9 {
			m.check(t, x)
		}
	}
}

// meet: every replica sends to every other one, and then once more: all know what
// one of them knew.
func (m *model) meet(t *testing.T, x *thicket.Cluster) {
	t.Helper()
	all := map[int]bool{}
	for i := range 3 {
		maps.Copy(all, m.known[i])
		m.known[i] = all
	}
	for range 2 {
		everyToEvery(t, x, 3)
	}
	m.check(t, x)
}

// Frames are lost, come late, come twice: each time all is as the section
// 'Words' has it, of the events that came.
func TestP6P8P10AsTheWordsSay(t *testing.T) {
	for seed := range 60 {
		source := rand.New(rand.NewSource(int64(seed)))
		room := []int{0, 1, 5, 50}[seed%4]
		x, m := cluster(t, 3, room), newModel(room)
		m.random(t, x, source, func() {})
		m.meet(t, x)
		knows(t, x, 0, 150)
		if t.Failed() {
			t.Fatalf("seed %d", seed)
		}
	}
}
