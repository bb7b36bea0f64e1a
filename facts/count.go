package facts

import (
	"math"
	"math/bits"
)

// Count tells in how many ways something is so. It has 128 bits, which no count of ways can pass: a rule
// has MaxBody*MaxArity variables at most, and there are fewer than 128 constants for each of them, those of
// MaxFacts base facts and of the heads of MaxClauses rules. Sums and differences on the way to a count may pass
// them, above or below; but they wrap round, so the count itself comes out right.
type Count struct {
	high, low uint64
}

// NewCount makes a count of a number.
func NewCount(number uint64) Count { return Count{low: number} }

// Plus adds a count.
func (c Count) Plus(other Count) Count {
	low, carry := bits.Add64(c.low, other.low, 0)
	high, _ := bits.Add64(c.high, other.high, carry)
	return Count{high: high, low: low}
}

// Minus takes a count away.
func (c Count) Minus(other Count) Count {
	low, borrow := bits.Sub64(c.low, other.low, 0)
	high, _ := bits.Sub64(c.high, other.high, borrow)
	return Count{high: high, low: low}
}

// Times multiplies the count.
func (c Count) Times(factor uint64) Count {
	high, low := bits.Mul64(c.low, factor)
	return Count{high: high + c.high*factor, low: low}
}

// Int gives the count, or the greatest int if the count is above it.
func (c Count) Int() int {
	if c.high > 0 || c.low > math.MaxInt {
		return math.MaxInt
	}
	return int(c.low)
}
