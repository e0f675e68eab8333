package parse

// The words that stand for themselves: what is read and what is printed are the same.
const (
	wordImport   = "import"
	wordMessage  = "message"
	wordEnum     = "enum"
	wordOneof    = "oneof"
	wordReserved = "reserved"
	wordTo       = "to"
	wordOptional = "optional"
	wordRepeated = "repeated"
	wordMap      = "map"
	wordPacked   = "packed"
	wordTrue     = "true"
	wordFalse    = "false"
)

// What Packed of a field says; 0, if nothing is said.
const (
	packedTrue  = 1
	packedFalse = 2
)
