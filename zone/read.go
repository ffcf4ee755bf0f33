package zone

import (
	"strings"

	"beacon/api"
	"beacon/names"
)

// readZone reads a text's lines: the origin, and the records in their order.
func readZone(text string) (string, []api.Record, bool) {
	body, ended := strings.CutSuffix(text, "\n")
	if !ended {
		return "", nil, false
	}
	lines := strings.Split(body, "\n")
	origin, ok := strings.CutPrefix(lines[0], "origin ")
	if !ok || !names.Plain(origin) {
		return "", nil, false
	}
	var list []api.Record
	for _, line := range lines[1:] {
		record, ok := readRecord(line)
		if !ok {
			return "", nil, false
		}
		list = append(list, record)
	}
	return origin, list, true
}

func readRecord(line string) (api.Record, bool) {
	words := strings.SplitN(line, " ", 4)
	if len(words) < 4 || !names.Valid(words[0]) {
		return api.Record{}, false
	}
	ttl, ok := readNumber(words[1], api.MaxTTL)
	kind := kindOf(words[2])
	if !ok || !isData(kind, strings.Split(words[3], " ")) {
		return api.Record{}, false
	}
	return api.Record{Owner: words[0], TTL: int(ttl), Type: kind, Data: words[3]}, true
}

// kindOf gives the number of a type, or 0.
func kindOf(word string) int {
	switch word {
	case "A":
		return api.A
	case "NS":
		return api.NS
	case "CNAME":
		return api.CNAME
	case "SOA":
		return api.SOA
	case "MX":
		return api.MX
	case "TXT":
		return api.TXT
	}
	return 0
}

// isData tells whether words are the data of a type.
func isData(kind int, words []string) bool {
	switch kind {
	case api.SOA:
		return len(words) == 4 && names.Plain(words[0]) && names.Plain(words[1]) &&
			isNumber(words[2], 1<<32-1) && isNumber(words[3], api.MaxTTL)
	case api.NS, api.CNAME:
		return len(words) == 1 && names.Plain(words[0])
	case api.A:
		return len(words) == 1 && isAddress(words[0])
	case api.TXT:
		return len(words) == 1 && isWord(words[0])
	case api.MX:
		return len(words) == 2 && isNumber(words[0], 1<<16-1) && names.Plain(words[1])
	}
	return false
}

func isAddress(word string) bool {
	parts := strings.Split(word, ".")
	for _, part := range parts {
		if !isNumber(part, 255) {
			return false
		}
	}
	return len(parts) == 4
}

func isWord(word string) bool {
	for i := range len(word) {
		if word[i] < 33 || word[i] > 126 {
			return false
		}
	}
	return 1 <= len(word) && len(word) <= api.MaxWord
}

func isNumber(word string, most uint64) bool {
	_, ok := readNumber(word, most)
	return ok
}

// readNumber reads `0`, or digits, the first not 0: a number up to most.
func readNumber(word string, most uint64) (uint64, bool) {
	if word == "" || word[0] == '0' && len(word) > 1 {
		return 0, false
	}
	var n uint64
	for i := range len(word) {
		if word[i] < '0' || word[i] > '9' {
			return 0, false
		}
		n = 10*n + uint64(word[i]-'0')
		// Asked at each digit, so that a long row of them does not wrap round.
		if n > most {
			return 0, false
		}
	}
	return n, true
}
