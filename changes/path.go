// Package changes: paths and changes, how they are read, and which one covers which.
package changes

import (
	"strings"

	"thicket/api"
)

// Kind is what is kept at a path.
type Kind byte

const (
	Set      Kind = 's'
	Flag     Kind = 'f'
	Register Kind = 'r'
	Counter  Kind = 'c'
	Map      Kind = 'm'
)

const kinds = "sfrcm"

// Path is a text that ReadPath took for a path.
type Path string

// ReadPath tells whether a text is a path, and gives it as one.
func ReadPath(text string) (Path, bool) {
	// One piece more than a path may have is enough to refuse a text of any length.
	segments := strings.SplitN(text, "/", api.MaxDepth+1)
	if len(segments) > api.MaxDepth {
		return "", false
	}
	last := len(segments) - 1
	for k, s := range segments {
		if !isSegment(s) || k < last && Kind(s[0]) != Map {
			return "", false
		}
	}
	return Path(text), true
}

func isSegment(s string) bool {
	return s != "" && strings.IndexByte(kinds, s[0]) >= 0 && isWord(s[1:], api.MaxName, isLetter)
}

// isWord: 1 to most bytes, all of which are of a sort.
func isWord(s string, most int, of func(byte) bool) bool {
	if len(s) < 1 || len(s) > most {
		return false
	}
	for k := range len(s) {
		if !of(s[k]) {
			return false
		}
	}
	return true
}

func isLetter(b byte) bool { return 'a' <= b && b <= 'z' }

func isLetterOrDigit(b byte) bool { return isLetter(b) || '0' <= b && b <= '9' }

// Kind is the kind of the path's last segment.
func (p Path) Kind() Kind {
	return Kind(p[strings.LastIndexByte(string(p), '/')+1])
}

// Holds: the other path is this one, or begins with it and a slash.
func (p Path) Holds(other Path) bool {
	_, below := p.Step(other)
	return p == other || below
}

// Step is the segment that stands right behind this path and a slash in a path
// below it.
func (p Path) Step(below Path) (string, bool) {
	rest, ok := strings.CutPrefix(string(below), string(p)+"/")
	if !ok {
		return "", false
	}
	segment, _, _ := strings.Cut(rest, "/")
	return segment, true
}
