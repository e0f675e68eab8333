package text

// The signs of the forms: what is read and what is printed are the same.
const (
	signValue      = ":" // ahead of a value
	signMessage    = "{"
	signMessageEnd = "}"
	signList       = "["
	signListEnd    = "]"
	signMap        = "<"
	signMapEnd     = ">"
	signUnknown    = "?"
	signMinus      = "-" // ahead of a number below 0, and of a wire kind
)
