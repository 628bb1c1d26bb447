package source

import (
	"strconv"
	"strings"

	"warrant/api"
)

// isBlank knows just three blanks: the library's notion of white space has more of them.
func isBlank(r rune) bool {
	return r == ' ' || r == '\t' || r == '\r'
}

func cutWords(line string) []string {
	return strings.FieldsFunc(line, isBlank)
}

func saysNothing(words []string) bool {
	return len(words) == 0 || words[0][0] == '#'
}

func isLetter(c byte) bool { return 'a' <= c && c <= 'z' }

func isDigit(c byte) bool { return '0' <= c && c <= '9' }

func isReserved(word string) bool {
	switch word {
	case "input", "output", "if", "goto", "return":
		return true
	}
	return false
}

func isName(word string) bool {
	if len(word) == 0 || len(word) > api.MaxName || !isLetter(word[0]) {
		return false
	}
	for i := range len(word) {
		if !isLetter(word[i]) && !isDigit(word[i]) {
			return false
		}
	}
	return !isReserved(word)
}

// isNumeral asks for the form alone, so that each number has just one numeral.
func isNumeral(word string) bool {
	digits, negative := strings.CutPrefix(word, "-")
	if len(digits) == 0 {
		return false
	}
	for i := range len(digits) {
		if !isDigit(digits[i]) {
			return false
		}
	}
	if digits[0] == '0' {
		return len(digits) == 1 && !negative
	}
	return true
}

func parseConstant(word string) (int64, bool) {
	if !isNumeral(word) {
		return 0, false
	}
	n, err := strconv.ParseInt(word, 10, 64)
	if err != nil {
		return 0, false
	}
	return n, true
}
