package driver

import (
	"iter"
	"strings"
)

const (
	lineEnd    = "\n"
	blanks     = " \t\r"
	remark     = "#"  // ahead of what is passed over, to the line's end
	quoteMark  = '"'  // ahead of a quoted word and behind it
	escapeMark = '\\' // within one: the byte behind it does not end the word
)

// spoken yields each line's words, but of the lines that are passed over.
func spoken(text string) iter.Seq[[]string] {
	return func(yield func([]string) bool) {
		for line := range strings.Lines(text) {
			words := wordsIn(strings.TrimSuffix(line, lineEnd))
			if len(words) == 0 || strings.HasPrefix(words[0], remark) {
				continue
			}
			if !yield(words) {
				return
			}
		}
	}
}

func wordsIn(line string) []string {
	var out []string
	for rest := withoutBlanks(line); rest != ""; rest = withoutBlanks(rest) {
		end := endOfWord(rest)
		out, rest = append(out, rest[:end]), rest[end:]
	}
	return out
}

func withoutBlanks(rest string) string { return strings.TrimLeft(rest, blanks) }

// endOfWord tells where the word ends that a text of at least one byte begins with.
func endOfWord(rest string) int {
	if rest[0] == quoteMark {
		return endOfQuoted(rest)
	}
	if end := strings.IndexAny(rest, blanks); end >= 0 {
		return end
	}
	return len(rest)
}

func endOfQuoted(rest string) int {
	for at := 1; at < len(rest); at++ {
		switch rest[at] {
		case quoteMark:
			return at + 1
		case escapeMark:
			at++
		}
	}
	return len(rest)
}
