package code

// The numbers of the sum.
const (
	sumStart  = 14695981039346656037
	sumFactor = 1099511628211
)

func sumOf(b []byte) uint64 {
	sum := uint64(sumStart)
	for _, c := range b {
		sum = (sum ^ uint64(c)) * sumFactor
	}
	return sum
}
