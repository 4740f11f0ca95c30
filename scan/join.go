package scan

import "strings"

// Join tells tokens as a text, in the one layout that Print has.
func Join(tokens []Token) string {
	var out strings.Builder
	tight := true
	for _, t := range tokens {
		if t.Kind == End {
			break
		}
		closes := t.Text == ":" || t.Text == "."
		if !tight && !closes {
			out.WriteByte(' ')
		}
		out.WriteString(plain(t))
		tight = closes
	}
	return out.String()
}

// plain is a token's text, a number's without noughts ahead.
func plain(t Token) string {
	if t.Kind != Number {
		return t.Text
	}
	if digits := strings.TrimLeft(t.Text, "0"); digits != "" {
		return digits
	}
	return "0"
}
