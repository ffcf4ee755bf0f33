package wire

// rightSum is what bytes add up to that have a right checksum among them.
const rightSum = 0xffff

// sum adds up the words of what fields write, as ones' complement does: what
// goes beyond a word is added at its low end. A half word at the end is a high
// one.
func sum(fields ...field) int {
	total := 0
	for i, b := range []byte(written(fields...)) {
		if i%2 == 0 {
			total += int(b) << 8
		} else {
			total += int(b)
		}
		total = total&0xffff + total>>16
	}
	return total
}
