// Package names has what the document says of names as texts.
package names

import (
	"iter"
	"strings"

	"beacon/api"
)

// star is the label that may stand first in a name, and nowhere else.
const star = "*"

// Valid tells whether a text is a name; its first label may be a star.
func Valid(text string) bool {
	if len(text) > api.MaxName {
		return false
	}
	for i, label := range strings.Split(text, ".") {
		if !isLabel(label) && (i > 0 || label != star) {
			return false
		}
	}
	return true
}

// Plain tells whether a text is a name without a star.
func Plain(text string) bool {
	return Valid(text) && !Starred(text)
}

// Starred tells whether a name's first label is the star.
func Starred(name string) bool {
	return strings.HasPrefix(name, star)
}

// Star gives the name whose records stand for what is not there under another.
func Star(name string) string {
	return star + "." + name
}

// FromLabels gives the text of labels of any bytes: labels that are the same
// but for capital letters have the same text, others have not. It is as long
// as the labels with a point between.
func FromLabels(labels ...string) string {
	texts := make([]string, len(labels))
	for i, label := range labels {
		texts[i] = fold(label)
	}
	return strings.Join(texts, ".")
}

// Under tells whether a name is another one, or has labels ahead of it.
func Under(name, other string) bool {
	return name == other || strings.HasSuffix(name, "."+other)
}

// First gives a name's first label.
func First(name string) string {
	label, _, _ := strings.Cut(name, ".")
	return label
}

// Ends gives all ends of a name: the whole, without its first label, and so on.
func Ends(name string) iter.Seq[string] {
	return func(yield func(string) bool) {
		for end := name; end != ""; _, end, _ = strings.Cut(end, ".") {
			if !yield(end) {
				return
			}
		}
	}
}

// Ancestors gives all ends of a name but the whole.
func Ancestors(name string) iter.Seq[string] {
	_, rest, _ := strings.Cut(name, ".")
	return Ends(rest)
}

// fold makes capital letters small. As none is left then, one stands for a
// point within a label, which would part it.
func fold(label string) string {
	text := []byte(label)
	for i, b := range text {
		switch {
		case 'A' <= b && b <= 'Z':
			text[i] = b - 'A' + 'a'
		case b == '.':
			text[i] = 'P'
		}
	}
	return string(text)
}

func isLabel(text string) bool {
	if len(text) < 1 || len(text) > api.MaxLabel {
		return false
	}
	for i := range len(text) {
		if !isSign(text[i]) {
			return false
		}
	}
	return true
}

func isSign(b byte) bool {
	return 'a' <= b && b <= 'z' || '0' <= b && b <= '9' || b == '-' || b == '_'
}
