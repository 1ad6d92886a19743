package scan

import (
	"math/big"
	"regexp"
	"slices"
	"strconv"
	"strings"
	"testing"

	"arborist/api"
)

func word(at int, text string) Token { return Token{Kind: 1, Text: text, At: at} }

func number(at, n int) Token { return Token{Kind: 2, N: n, At: at} }

func sign(at int, text string) Token { return Token{Kind: 3, Text: text, At: at} }

func end(at int) Token { return Token{Kind: 4, At: at} }

// short keeps the report of a failure to one line, whatever the text is.
func short(text string) string {
	if len(text) > 80 {
		return strconv.Quote(text[:80]) + ".. of " + strconv.Itoa(len(text))
	}
	return strconv.Quote(text)
}

func check(t *testing.T, text string, want ...Token) {
	t.Helper()
	got, at, e := All(text)
	if e != api.OK || at != 0 || !slices.Equal(got, want) {
		t.Errorf("%s: %v %d %v", short(text), got, at, e)
	}
}

func checkRefused(t *testing.T, text string, place int, want api.Errno) {
	t.Helper()
	got, at, e := All(text)
	if e != want || at != place || len(got) != 0 {
		t.Errorf("%s: %d tokens, %v at %d, not %v at %d", short(text), len(got), e, at, want, place)
	}
}

var (
	leftOutForm = regexp.MustCompile(`^(?:[ \t\n]|#[^\n]*)*`)
	wordForm    = regexp.MustCompile(`^[a-z]+`)
	numberForm  = regexp.MustCompile(`^-?[0-9]+`)
	rightNumber = regexp.MustCompile(`^(?:0|-?[1-9][0-9]*)$`)
	signForm    = regexp.MustCompile(`^[:,;]`)
)

// told tells anew, by patterns, what E1 says of a text of no more than MaxText bytes.
func told(text string) ([]Token, int, api.Errno) {
	tokens, at := []Token{}, 0
	for {
		at += len(leftOutForm.FindString(text[at:]))
		rest := text[at:]
		w, n, s := wordForm.FindString(rest), numberForm.FindString(rest), signForm.FindString(rest)
		switch {
		case rest == "":
			return append(tokens, end(at)), 0, api.OK
		case w != "":
			tokens = append(tokens, word(at, w))
		case s != "":
			tokens = append(tokens, sign(at, s))
		case !rightNumber.MatchString(n):
			return nil, at, api.ErrChar
		default:
			v, _ := new(big.Int).SetString(n, 10)
			if v.CmpAbs(big.NewInt(1000000000000)) > 0 {
				return nil, at, api.ErrRange
			}
			tokens = append(tokens, number(at, int(v.Int64())))
		}
		at += len(w) + len(n) + len(s)
	}
}

// checkTold holds All against told, and asks twice, as nothing hangs on what was asked ahead.
func checkTold(t *testing.T, text string) {
	t.Helper()
	want, place, err := told(text)
	for range 2 {
		got, at, e := All(text)
		if e != err || at != place || !slices.Equal(got, want) {
			t.Fatalf("%s: %v %d %v, not %v %d %v", short(text), got, at, e, want, place, err)
		}
	}
}

func TestKinds(t *testing.T) {
	if Word != 1 || Number != 2 || Sign != 3 || End != 4 {
		t.Error(Word, Number, Sign, End)
	}
}

func TestOrdinaryTexts(t *testing.T) {
	check(t, "var 0;", word(0, "var"), number(4, 0), sign(5, ";"), end(6))
	check(t, "var 0 1; diff 0;\n", word(0, "var"), number(4, 0), number(6, 1), sign(7, ";"), word(9, "diff"), number(14, 0), sign(15, ";"), end(17))
	check(t, "linear 2 0, -3 1: le 10;", word(0, "linear"), number(7, 2), number(9, 0), sign(10, ","), number(12, -3), number(15, 1), sign(16, ":"), word(18, "le"), number(21, 10), sign(23, ";"), end(24))
	check(t, "  soft\t0 : -5 , 1 7 # what it costs\n;", word(2, "soft"), number(7, 0), sign(9, ":"), number(11, -5), sign(14, ","), number(16, 1), number(18, 7), sign(36, ";"), end(37))
}

func TestEachTokenAlone(t *testing.T) {
	check(t, "", end(0))
	for c := byte('a'); c <= 'z'; c++ {
		check(t, string(c), word(0, string(c)), end(1))
	}
	check(t, "abcdefghijklmnopqrstuvwxyz", word(0, "abcdefghijklmnopqrstuvwxyz"), end(26))
	for n := range 10 {
		check(t, strconv.Itoa(n), number(0, n), end(1))
	}
	check(t, "1234567890", number(0, 1234567890), end(10))
	check(t, "-9876543210", number(0, -9876543210), end(11))
	check(t, "-7", number(0, -7), end(2))
	for _, s := range []string{":", ",", ";"} {
		check(t, s, sign(0, s), end(1))
	}
}

func TestTokensSideBySide(t *testing.T) {
	check(t, "ab12cd", word(0, "ab"), number(2, 12), word(4, "cd"), end(6))
	check(t, "ab-12cd", word(0, "ab"), number(2, -12), word(5, "cd"), end(7))
	check(t, "1-2-30", number(0, 1), number(1, -2), number(3, -30), end(6))
	check(t, "0-1", number(0, 0), number(1, -1), end(3))
	check(t, "0a0", number(0, 0), word(1, "a"), number(2, 0), end(3))
	check(t, ";;:,", sign(0, ";"), sign(1, ";"), sign(2, ":"), sign(3, ","), end(4))
	check(t, "a;5:b,-5;", word(0, "a"), sign(1, ";"), number(2, 5), sign(3, ":"), word(4, "b"), sign(5, ","), number(6, -5), sign(8, ";"), end(9))
}

// TestEveryPairOfTokens lays each behind each other one, without a blank and with one, and holds them against what they are alone.
func TestEveryPairOfTokens(t *testing.T) {
	alone := []string{"a", "var", "z", "0", "7", "10", "-1", "-20", ":", ",", ";"}
	for _, x := range alone {
		for _, y := range alone {
			checkTold(t, x+y)
			for _, between := range []string{" ", "\t", "\n", "#\n", "# 1 x ;\n"} {
				first, _, _ := All(x)
				second, _, _ := All(y)
				for i := range second {
					second[i].At += len(x + between)
				}
				check(t, x+between+y, append(first[:1], second...)...)
			}
		}
	}
}

func TestWhatIsLeftOut(t *testing.T) {
	for _, blank := range []string{" ", "\t", "\n", " \t\n\n\t  ", "#", "##", "# 01 A \r \x00 \xff $ -", "#\n", "#a\n#b\n", " # -\n\t#;", "#\xc3\xa9\n", "\n#"} {
		n := len(blank)
		check(t, blank, end(n))
		check(t, "x"+blank, word(0, "x"), end(n+1))
		check(t, "-5"+blank, number(0, -5), end(n+2))
		check(t, ";"+blank, sign(0, ";"), end(n+1))
		check(t, blank+"\nx1;", word(n+1, "x"), number(n+2, 1), sign(n+3, ";"), end(n+4))
	}
	check(t, "a#b\nc", word(0, "a"), word(4, "c"), end(5))
	check(t, "a#b;c", word(0, "a"), end(5))
	check(t, "1#2\n-3#\n", number(0, 1), number(4, -3), end(8))
	check(t, "#a\n\n#b\n5", number(7, 5), end(8))
}

func TestLength(t *testing.T) {
	check(t, strings.Repeat(" ", 100000), end(100000))
	check(t, strings.Repeat("x", 100000), word(0, strings.Repeat("x", 100000)), end(100000))
	check(t, "#"+strings.Repeat("\xff", 99999), end(100000))
	checkRefused(t, strings.Repeat(" ", 99999)+"-", 99999, api.ErrChar)
	for _, text := range []string{" ", "x", "1", "0", "A", "\x00", ";", "#", "-"} {
		checkRefused(t, strings.Repeat(text, 100001), 0, api.ErrMany)
	}
	checkRefused(t, strings.Repeat(" ", 200000), 0, api.ErrMany)
	got, at, e := All(strings.Repeat(";", 100000))
	if e != api.OK || at != 0 || len(got) != 100001 || got[99999] != sign(99999, ";") || got[100000] != end(100000) {
		t.Errorf("%d tokens, %v at %d", len(got), e, at)
	}
}

// TestEveryByte asks each byte what begins with it, alone, and behind each kind of token.
func TestEveryByte(t *testing.T) {
	const begins = "abcdefghijklmnopqrstuvwxyz0123456789:,; \t\n#"
	for n := range 256 {
		c := string([]byte{byte(n)})
		checkTold(t, c)
		if strings.Contains(begins, c) {
			if _, at, e := All(c); e != api.OK || at != 0 {
				t.Errorf("%q: %v at %d", c, e, at)
			}
			continue
		}
		checkRefused(t, c, 0, api.ErrChar)
		for _, ahead := range []string{"a", "word ", "5", "-12", "0", ";", " ", "\t\n", "# A\n", "x1,"} {
			checkRefused(t, ahead+c, len(ahead), api.ErrChar)
			checkRefused(t, ahead+c+" a", len(ahead), api.ErrChar)
		}
	}
	for _, c := range []string{"A", "Z", "\r", "\x00", "\x7f", "\x80", "\xff", "é", "\v", "\f", "$", "+", ".", "_", "(", "\u00a0", "`", "{", "/", "-"} {
		checkRefused(t, c, 0, api.ErrChar)
		checkRefused(t, "ok"+c, 2, api.ErrChar)
	}
	checkRefused(t, "varA", 3, api.ErrChar)
	checkRefused(t, "a\r\n", 1, api.ErrChar)
	checkRefused(t, "5.0", 1, api.ErrChar)
}

func TestMinusWithoutDigit(t *testing.T) {
	for _, behind := range []string{"", " ", " 5", "\t5", "\n5", "x", ";", "-", "-5", "#", "#\n5", "A", "+1"} {
		checkRefused(t, "-"+behind, 0, api.ErrChar)
		checkRefused(t, "a "+"-"+behind, 2, api.ErrChar)
		checkRefused(t, "12-"+behind, 2, api.ErrChar)
	}
}

func TestNoughtsAhead(t *testing.T) {
	for _, n := range []string{"00", "01", "09", "007", "0000", "0123456789012345678901", "-0", "-00", "-01", "-09", "-0123456789012345678901", "0" + strings.Repeat("9", 5000)} {
		for _, ahead := range []string{"", " ", "x", ";", "a 1 ", "#\n"} {
			checkRefused(t, ahead+n, len(ahead), api.ErrChar)
			checkRefused(t, ahead+n+" 5", len(ahead), api.ErrChar)
			checkRefused(t, ahead+n+"x", len(ahead), api.ErrChar)
		}
	}
	checkRefused(t, "1-0", 1, api.ErrChar)
	checkRefused(t, "0-0", 1, api.ErrChar)
	check(t, "0", number(0, 0), end(1))
	check(t, " 0 0", number(1, 0), number(3, 0), end(4))
	check(t, "100", number(0, 100), end(3))
	check(t, "-100", number(0, -100), end(4))
}

func TestGreatNumbers(t *testing.T) {
	for _, n := range []int{1000000, 1000001, 999999999999, 1000000000000} {
		text := strconv.Itoa(n)
		check(t, text, number(0, n), end(len(text)))
		check(t, "-"+text, number(0, -n), end(len(text)+1))
		check(t, "x"+text+"y", word(0, "x"), number(1, n), word(len(text)+1, "y"), end(len(text)+2))
	}
	for _, n := range []string{
		"1000000000001", "1000000000010", "2000000000000", "9999999999999", "10000000000000", "99999999999999999999",
		"9223372036854775807", "9223372036854775808", "18446744073709551615", "18446744073709551616", "18446744073709551617", "36893488147419103237",
		"340282366920938463463374607431768211456", "1" + strings.Repeat("0", 5000), strings.Repeat("7", 90000),
	} {
		for _, ahead := range []string{"", "x ", ";", "5 ", "a-1,"} {
			checkRefused(t, ahead+n, len(ahead), api.ErrRange)
			checkRefused(t, ahead+"-"+n, len(ahead), api.ErrRange)
			checkRefused(t, ahead+n+"a;", len(ahead), api.ErrRange)
		}
	}
	checkRefused(t, strings.Repeat("9", 100000), 0, api.ErrRange)
	checkRefused(t, "-"+strings.Repeat("9", 99999), 0, api.ErrRange)
}

// TestFirstWrongIsTold lays each that is wrong ahead of each other one.
func TestFirstWrongIsTold(t *testing.T) {
	wrong := []struct {
		text string
		err  api.Errno
	}{{"A", api.ErrChar}, {"-", api.ErrChar}, {"01", api.ErrChar}, {"-0", api.ErrChar}, {"\xff", api.ErrChar}, {"1000000000001", api.ErrRange}, {"-1000000000001", api.ErrRange}}
	for _, x := range wrong {
		for _, y := range wrong {
			for _, between := range []string{" ", ";", "x", " a 1; ", "#\n"} {
				checkRefused(t, x.text+between+y.text, 0, x.err)
				checkRefused(t, "ok 5 "+x.text+between+y.text, 5, x.err)
			}
		}
	}
	checkRefused(t, "# A 01 -\n\tB", 10, api.ErrChar)
}

// textsOf hands out every text of up to this many of these pieces.
func textsOf(pieces []string, most int, hand func(text string)) {
	texts := []string{""}
	for range most + 1 {
		var longer []string
		for _, x := range texts {
			hand(x)
			for _, p := range pieces {
				longer = append(longer, x+p)
			}
		}
		texts = longer
	}
}

func TestEveryShortText(t *testing.T) {
	bytes := []string{"a", "z", "0", "1", "9", "-", ":", ",", ";", " ", "\t", "\n", "#", "A", "\r", "\x00", "\xc3"}
	textsOf(bytes, 4, func(text string) { checkTold(t, text) })
	pieces := []string{"var", "1000000000000", "1000000000001", "-1", "00", "0", "#", "\n", " ", ";", "É"}
	textsOf(pieces, 4, func(text string) { checkTold(t, text) })
}

// TestTokensStandOneBehindTheOther asks of right texts that each token is the bytes that the text has there, with nothing but what is left out between.
func TestTokensStandOneBehindTheOther(t *testing.T) {
	leftOut := regexp.MustCompile(`^(?:[ \t\n]|#[^\n]*)*$`)
	right := 0
	textsOf([]string{"a", "bc", "0", "12", "-3", ":", ";", " ", "\n", "#x"}, 5, func(text string) {
		tokens, _, e := All(text)
		if e != api.OK {
			return
		}
		right++
		behind := 0
		for i, x := range tokens {
			spelt := x.Text
			if x.Kind == Number {
				spelt = strconv.Itoa(x.N)
			}
			if x.At < behind || !strings.HasPrefix(text[x.At:], spelt) || !leftOut.MatchString(text[behind:x.At]) || (x.Kind == End) != (i == len(tokens)-1) {
				t.Fatalf("%q: %v", text, tokens)
			}
			behind = x.At + len(spelt)
		}
		if behind != len(text) {
			t.Fatalf("%q: %v", text, tokens)
		}
	})
	if right < 10000 {
		t.Errorf("only %d texts are right", right)
	}
}

func TestAnswersAreTheCallers(t *testing.T) {
	const text = "var 0 1;"
	want, _, _ := told(text)
	got, _, _ := All(text)
	for i := range got {
		got[i] = Token{Kind: 9, Text: "x", N: 9, At: 9}
	}
	_ = append(got, end(3))
	check(t, text, want...)
	checkRefused(t, "A", 0, api.ErrChar)
	check(t, text, want...)
}
