package facts

import "upshot/api"

// Word is a constant. Its bytes are those of the number from the highest one down, zeros behind them:
// so words are in the order of constants, and make small keys of maps. 0 stands for no constant.
type Word uint64

// NewWord makes a word of a constant of MaxWord bytes at most (a word has room for just so many).
func NewWord(constant string) Word {
	var w Word
	for i := range api.MaxWord {
		w <<= 8
		if i < len(constant) {
			w |= Word(constant[i])
		}
	}
	return w
}

// Text writes the constant.
func (w Word) Text() string {
	var text []byte
	for ; w != 0; w <<= 8 {
		text = append(text, byte(w>>(8*(api.MaxWord-1))))
	}
	return string(text)
}
