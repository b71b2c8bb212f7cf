package scan_test

import (
	"strings"
	"testing"

	"krait/scan"
)

const allKeywords = "None True False and or not if else elif while for in is break continue pass def class return raise try except as finally global nonlocal del assert yield lambda"

const wordBytes = "abcdefghijklmnopqrstuvwxyzABCDEFGHIJKLMNOPQRSTUVWXYZ_0123456789"

func TestP1_1Keywords(t *testing.T) {
	for _, k := range strings.Fields(allKeywords) {
		if !scan.Keyword(k) || scan.Name(k) {
			t.Errorf("%s must be a keyword, and no name", k)
		}
		for _, near := range []string{k + "_", "_" + k, k + "0", strings.ToUpper(k), k[:1]} {
			if scan.Keyword(near) || !scan.Name(near) {
				t.Errorf("%s must be a name, and no keyword", near)
			}
		}
		for _, wrong := range []string{" " + k, k + " ", k + "\x00", k + k[:1] + " "} {
			if scan.Keyword(wrong) || scan.Name(wrong) {
				t.Errorf("%q must be neither", wrong)
			}
		}
	}
	for _, s := range []string{"none", "true", "false", "print", "self", "with", "import", "from", "async", "match", "len"} {
		if scan.Keyword(s) || !scan.Name(s) {
			t.Errorf("%s must be a name, and no keyword", s)
		}
	}
	if scan.Keyword("") {
		t.Error("nothing is no keyword")
	}
}

func TestP1_1NamesOfOneAndTwoBytes(t *testing.T) {
	if scan.Name("") {
		t.Error("nothing is no name")
	}
	for i := range 256 {
		b := string([]byte{byte(i)})
		word := strings.Contains(wordBytes, b)
		digit := i >= '0' && i <= '9'
		if scan.Name(b) != (word && !digit) {
			t.Errorf("%q: %v", b, scan.Name(b))
		}
		if scan.Name("q"+b) != word {
			t.Errorf("q%q: %v", b, scan.Name("q"+b))
		}
		if scan.Name("q"+b+"q") != word {
			t.Errorf("q%qq: %v", b, scan.Name("q"+b+"q"))
		}
		if scan.Name("1" + b) {
			t.Errorf("1%q is no name", b)
		}
	}
}

func TestP1_1LongNames(t *testing.T) {
	long := strings.Repeat("aZ_9", 50000)
	if !scan.Name(long) || scan.Name(long+"-") || scan.Name("9"+long) {
		t.Error("a name may be long, but holds to its bytes")
	}
	if scan.Name("né") || scan.Name("é") || scan.Name("a\xc3") || scan.Name("a\u0661") {
		t.Error("letters and digits are those of ASCII")
	}
}
