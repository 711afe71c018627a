// Package token is layer 1: the lexer of the description language.
package token

import (
	"strconv"
	"strings"

	"platformfw/api"
)

// Scan splits a source text into tokens. Together with ErrSyntax it returns the offset of the first faulty item.
func Scan(src string) ([]api.Token, int, api.Errno) {
	if len(src) > api.MaxSource {
		return nil, 0, api.ErrOverflow
	}
	var tokens []api.Token
	for at := 0; ; {
		start, ok := skipBlank(src, at)
		if !ok {
			return nil, start, api.ErrSyntax
		}
		if start == len(src) {
			return tokens, 0, api.OK
		}
		t, end, ok := scanItem(src, start)
		if !ok {
			return nil, start, api.ErrSyntax
		}
		t.Pos = start
		tokens = append(tokens, t)
		at = end
	}
}

// skipBlank returns the offset after white space and comments, or the offset of a comment that is not closed and false.
func skipBlank(src string, at int) (int, bool) {
	for at < len(src) {
		switch {
		case src[at] == ' ' || src[at] == '\t' || src[at] == '\r' || src[at] == '\n':
			at++
		case strings.HasPrefix(src[at:], "//"):
			n := strings.IndexByte(src[at:], '\n')
			if n < 0 {
				return len(src), true
			}
			at += n
		case strings.HasPrefix(src[at:], "/*"):
			n := strings.Index(src[at+2:], "*/")
			if n < 0 {
				return at, false
			}
			at += n + 4
		default:
			return at, true
		}
	}
	return at, true
}

// scanItem reads the item at an offset and returns its token and the offset after it.
func scanItem(src string, at int) (api.Token, int, bool) {
	c := src[at]
	switch {
	case isLetter(c):
		end := wordEnd(src, at)
		if hasLower(src[at:end]) {
			return api.Token{Kind: api.TokenKeyword, Str: src[at:end]}, end, end-at <= api.MaxKeyword
		}
		return scanName(src, at)
	case c == '\\' || c == '^':
		return scanName(src, at)
	case isDigit(c):
		end := wordEnd(src, at)
		v, ok := integer(src[at:end])
		return api.Token{Kind: api.TokenInteger, Int: v}, end, ok
	case c == '"':
		return scanString(src, at)
	}
	kind := punctuation(c)
	return api.Token{Kind: kind}, at + 1, kind != 0
}

func scanName(src string, at int) (api.Token, int, bool) {
	end, ok := nameEnd(src, at)
	if !ok {
		return api.Token{}, 0, false
	}
	return api.Token{Kind: api.TokenName, Str: src[at:end]}, end, true
}

// nameEnd returns the offset after the longest name at an offset.
func nameEnd(src string, at int) (int, bool) {
	prefixed := false
	if at < len(src) && src[at] == '\\' {
		at++
		prefixed = true
	} else {
		for at < len(src) && src[at] == '^' {
			at++
			prefixed = true
		}
	}
	if prefixed && (at == len(src) || !isLetter(src[at])) {
		return at, true
	}
	for {
		end := wordEnd(src, at)
		if !isSegment(src[at:end]) {
			return 0, false
		}
		if end == len(src) || src[end] != '.' {
			return end, true
		}
		at = end + 1
	}
}

func scanString(src string, at int) (api.Token, int, bool) {
	var text []byte
	for i := at + 1; i < len(src); i++ {
		c := src[i]
		switch {
		case c == '"':
			return api.Token{Kind: api.TokenString, Str: string(text)}, i + 1, len(text) <= api.MaxString
		case c == '\\':
			v, n, ok := escape(src[i+1:])
			if !ok {
				return api.Token{}, 0, false
			}
			text = append(text, v)
			i += n
		case c >= 0x20 && c <= 0x7e:
			text = append(text, c)
		default:
			return api.Token{}, 0, false
		}
	}
	return api.Token{}, 0, false
}

// escape decodes what follows a backslash: the byte that it stands for, and its length.
func escape(s string) (byte, int, bool) {
	if s == "" {
		return 0, 0, false
	}
	switch s[0] {
	case '"', '\\':
		return s[0], 1, true
	case 'x':
		if len(s) < 3 || !isHex(s[1]) || !isHex(s[2]) {
			return 0, 0, false
		}
		v, err := strconv.ParseUint(s[1:3], 16, 8)
		return byte(v), 3, err == nil
	}
	return 0, 0, false
}

// integer returns the value of an integer literal.
func integer(s string) (uint64, bool) {
	if s == "0" {
		return 0, true
	}
	if strings.HasPrefix(s, "0x") {
		digits := s[2:]
		if digits == "" || len(digits) > 16 || !all(digits, isHex) {
			return 0, false
		}
		v, err := strconv.ParseUint(digits, 16, 64)
		return v, err == nil
	}
	if s[0] == '0' || !all(s, isDigit) {
		return 0, false
	}
	v, err := strconv.ParseUint(s, 10, 64)
	return v, err == nil
}

// punctuation returns the kind of a one-byte token, or 0.
func punctuation(c byte) int {
	switch c {
	case '(':
		return api.TokenOpen
	case ')':
		return api.TokenClose
	case '{':
		return api.TokenBraceOpen
	case '}':
		return api.TokenBraceClose
	case ',':
		return api.TokenComma
	}
	return 0
}

// wordEnd returns the offset after the letters, digits and underscores at an offset.
func wordEnd(src string, at int) int {
	for at < len(src) && (isLetter(src[at]) || isDigit(src[at])) {
		at++
	}
	return at
}

func isLetter(c byte) bool {
	return c >= 'a' && c <= 'z' || c >= 'A' && c <= 'Z' || c == '_'
}

func isDigit(c byte) bool { return c >= '0' && c <= '9' }

func isHex(c byte) bool {
	return isDigit(c) || c >= 'a' && c <= 'f' || c >= 'A' && c <= 'F'
}

func isLower(c byte) bool { return c >= 'a' && c <= 'z' }

func all(s string, test func(byte) bool) bool {
	for i := range len(s) {
		if !test(s[i]) {
			return false
		}
	}
	return true
}

func hasLower(s string) bool {
	for i := range len(s) {
		if isLower(s[i]) {
			return true
		}
	}
	return false
}

func isIdentifier(s string) bool {
	return s != "" && isLetter(s[0]) && wordEnd(s, 0) == len(s)
}

func isSegment(s string) bool {
	return isIdentifier(s) && len(s) <= 4 && !hasLower(s)
}

// Valid reports whether a token can be a result of Scan, apart from Pos.
func Valid(t api.Token) bool {
	switch t.Kind {
	case api.TokenName:
		end, ok := nameEnd(t.Str, 0)
		return ok && t.Str != "" && end == len(t.Str)
	case api.TokenKeyword:
		return isIdentifier(t.Str) && hasLower(t.Str) && len(t.Str) <= api.MaxKeyword
	case api.TokenString:
		return len(t.Str) <= api.MaxString
	case api.TokenInteger, api.TokenOpen, api.TokenClose, api.TokenBraceOpen, api.TokenBraceClose, api.TokenComma:
		return true
	}
	return false
}

// Format returns the tokens as text, separated by spaces, or the empty string if one is not valid.
func Format(l []api.Token) string {
	var b strings.Builder
	for i, t := range l {
		if !Valid(t) {
			return ""
		}
		if i > 0 {
			b.WriteByte(' ')
		}
		b.WriteString(text(t))
	}
	return b.String()
}

func text(t api.Token) string {
	switch t.Kind {
	case api.TokenInteger:
		if t.Int < 10 {
			return strconv.FormatUint(t.Int, 10)
		}
		return "0x" + strings.ToUpper(strconv.FormatUint(t.Int, 16))
	case api.TokenString:
		return quote(t.Str)
	case api.TokenOpen:
		return "("
	case api.TokenClose:
		return ")"
	case api.TokenBraceOpen:
		return "{"
	case api.TokenBraceClose:
		return "}"
	case api.TokenComma:
		return ","
	}
	return t.Str
}

func quote(s string) string {
	const digits = "0123456789ABCDEF"
	b := []byte{'"'}
	for i := range len(s) {
		c := s[i]
		switch {
		case c == '"' || c == '\\':
			b = append(b, '\\', c)
		case c >= 0x20 && c <= 0x7e:
			b = append(b, c)
		default:
			b = append(b, '\\', 'x', digits[c>>4], digits[c&15])
		}
	}
	return string(append(b, '"'))
}
