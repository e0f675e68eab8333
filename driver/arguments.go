package driver

import (
	"cartouche/api"
	"cartouche/quote"
)

// arguments are the words behind a command's name. A command takes them one by one, each as what must stand there, and asks that none is left, ahead of all else that it asks or does: so what they are is refused first.
type arguments struct{ left []string }

// word takes one of any form.
func (a *arguments) word() string {
	if len(a.left) == 0 {
		refuse(api.ErrSyntax)
	}
	first := a.left[0]
	a.left = a.left[1:]
	return first
}

// quoted takes a quoted text, and tells the bytes that it stands for.
func (a *arguments) quoted() string {
	return string(must(quote.Unquote(a.word()))) // a script has no word that is too big for it
}

func (a *arguments) hex() []byte {
	b, ok := bytesIn(a.word())
	if !ok {
		refuse(api.ErrSyntax)
	}
	return b
}

func (a *arguments) end() {
	if len(a.left) > 0 {
		refuse(api.ErrSyntax)
	}
}
