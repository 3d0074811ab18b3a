package changes

import (
	"strconv"
	"strings"

	"thicket/api"
)

// Action is what a change does at its path.
type Action byte

const (
	Add   Action = '+'
	Take  Action = '-'
	Raise Action = '^'
	Lower Action = '_'
	Write Action = '='
	Count Action = '>'
	Clear Action = '!'
)

const actions = "+-^_=>!"

// Change is a path and an action, with the value or the number behind it.
type Change struct {
	Path   Path
	Action Action
	Value  string
	Number int64
}

// Read takes a text for a change: ErrPath, ErrKind or ErrOp, the first of these
// that applies, if it is none.
func Read(text string) (Change, api.Errno) {
	// No path has the sign of an action in it, so the first sign ends the path.
	sign := strings.IndexAny(text, actions)
	if sign < 0 {
		return Change{}, api.ErrPath
	}
	path, ok := ReadPath(text[:sign])
	if !ok {
		return Change{}, api.ErrPath
	}
	if strings.IndexByte(actionsOf(path.Kind()), text[sign]) < 0 {
		return Change{}, api.ErrKind
	}
	c := Change{Path: path, Action: Action(text[sign])}
	if !c.readOperand(text[sign+1:]) {
		return Change{}, api.ErrOp
	}
	return c.copied(), api.OK
}

// copied shares no memory with the text that was read: changes are kept, and
// what a caller hands in is not.
func (c Change) copied() Change {
	c.Path = Path(strings.Clone(string(c.Path)))
	c.Value = strings.Clone(c.Value)
	return c
}

func actionsOf(k Kind) string {
	switch k {
	case Set:
		return "+-!"
	case Flag:
		return "^_!"
	case Register:
		return "=!"
	case Counter:
		return ">!"
	}
	return "!"
}

func (c *Change) readOperand(text string) bool {
	switch c.Action {
	case Add, Take, Write:
		c.Value = text
		return isWord(text, api.MaxValue, isLetterOrDigit)
	case Count:
		n, ok := readNumber(text)
		c.Number = n
		return ok
	}
	return text == ""
}

// readNumber takes the one form alone in which a number is told: no zeros or
// plus ahead, no minus ahead of 0.
func readNumber(text string) (int64, bool) {
	n, err := strconv.ParseInt(text, 10, 64)
	if err != nil || strconv.FormatInt(n, 10) != text {
		return 0, false
	}
	return n, -api.MaxCount <= n && n <= api.MaxCount
}

// Text is the change as Read takes it.
func (c Change) Text() string {
	text := string(c.Path) + string(rune(c.Action)) + c.Value
	if c.Action == Count {
		text += strconv.FormatInt(c.Number, 10)
	}
	return text
}

// IsEffect: the change makes something that can be alive.
func (c Change) IsEffect() bool {
	switch c.Action {
	case Add, Raise, Write, Count:
		return true
	}
	return false
}

// Covers: the change ends an effect, if it saw it.
func (c Change) Covers(effect Change) bool {
	if c.Action == Clear {
		return c.Path.Holds(effect.Path)
	}
	if c.Path != effect.Path {
		return false
	}
	switch c.Action {
	case Add, Take:
		return effect.Action == Add && effect.Value == c.Value
	case Raise, Lower:
		return effect.Action == Raise
	case Write:
		return effect.Action == Write
	}
	return false
}
