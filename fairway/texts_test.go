package fairway_test

// allTexts are the texts of these letters with at most so many bytes.
func allTexts(letters string, most int) []string {
	texts := []string{""}
	begin := 0
	for length := 1; length <= most; length++ {
		end := len(texts)
		for _, shorter := range texts[begin:end] {
			for _, letter := range letters {
				texts = append(texts, shorter+string(letter))
			}
		}
		begin = end
	}
	return texts
}

// changedTexts are a text with one byte left out, put in or exchanged, at
// every place and with every byte.
func changedTexts(whole string) []string {
	texts := []string{whole}
	for place := 0; place <= len(whole); place++ {
		before, behind := whole[:place], whole[place:]
		if behind != "" {
			texts = append(texts, before+behind[1:])
		}
		for b := 0; b < 256; b++ {
			changed := before + string([]byte{byte(b)})
			texts = append(texts, changed+behind)
			if behind != "" {
				texts = append(texts, changed+behind[1:])
			}
		}
	}
	return texts
}
