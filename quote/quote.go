// Package quote takes quoted texts from the front of others. It stands beside the layers: several of them read
// what is quoted in the same way.
package quote

import "strings"

// Cut answers what the quoted text quotes with which s begins, what stands behind that, and whether s begins
// with one.
func Cut(s string) (string, string, bool) {
	s, ok := strings.CutPrefix(s, `"`)
	if !ok {
		return "", "", false
	}
	var text strings.Builder
	for i := 0; i < len(s); i++ {
		if s[i] == '"' {
			return text.String(), s[i+1:], true
		}
		if s[i] == '\\' {
			i++
			if i == len(s) || s[i] != '"' && s[i] != '\\' {
				return "", "", false
			}
		}
		text.WriteByte(s[i])
	}
	return "", "", false
}
