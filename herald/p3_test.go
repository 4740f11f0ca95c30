package herald_test

import (
	"strings"
	"testing"

	"herald/api"
)

func TestP3Examples(t *testing.T) {
	taken(t, 5, "within 10 rate 5 x:1 then y:2 if y.a = x.a")
	refusedAt(t, api.ErrNumber, 7, "within 0 rate 5 x:1")
	refusedAt(t, api.ErrText, 19, "within 10 rate 5 x 1")
	refusedAt(t, api.ErrTwice, 26, "within 10 rate 5 x:1 then x:2")
	refusedAt(t, api.ErrName, 24, "within 10 rate 5 x:1 if y.a = 1")
}

func TestP3WrongTokens(t *testing.T) {
	refused(t, api.ErrText,
		"@\twithin 5 rate 5 x:1", "within@\t5 rate 5 x:1", "within 5 rate 5 x:1@\r\n", "within 5 rate 5 x:1@\x00", "within 5 rate 5 x:1 @\xff",
		"@Within 5 rate 5 x:1", "@wIthin 5 rate 5 x:1", "within 5 @rAte 5 x:1", "within 5 rate 5 x@A:1", "within 5 rate 5 x@_:1", "within 5 rate 5 x:1@,", "within 5 rate 5 @é:1", "within 5 rate 5 x:1 @# y",
		"within 5 rate 5 x:1 if x.a @! 1", "within 5 rate 5 x:1 if x.a @! = 1", "within 5 rate 5 x:1 if x.a @!", "within 5 rate 5 x:1 if 1 @& 2", "within 5 rate 5 x:1 if 1 @!! 2",
		// what stands first is told, be it no token or at a wrong place
		"within @rate ; 5", "within @; rate", "within 5 rate 5 x @1 ;", "within 5 rate 5 x:@; 1 1")
}

func TestP3NumbersAsTokens(t *testing.T) {
	taken(t, 0, "within 5 rate 5 x:1 if 999999999 = 000000000")
	taken(t, 0, "within 000000001 rate 000000001 x:000000001 times 000000001")
	taken(t, 0, "within 5rate 5x:1if 1=1or 2=2")
	refused(t, api.ErrText,
		"within 5 rate 5 x:1 if @1000000000 = 1", "within 5 rate 5 x:1 if 1 = @0000000001", "within @0000000005 rate 5 x:1", "within 5 rate 5 x:@0000000001",
		"within 5 rate 5 x:1 times @0000000001", "within 5 rate 5 x:1 if x.@0000000001 = 1", "within 0 rate 5 x:@1234567890", "within 5 rate 5 x:1 if 1 = @99999999999999999999999999",
		"within 1 @000000000 rate 1 x:1")
}

func TestP3Names(t *testing.T) {
	taken(t, 5, "within 5 rate 5 abcdefgh:1 then a:2 if abcdefgh.a = a.a")
	for _, name := range []string{"a", "b", "c", "t", "its", "i", "the", "ifs", "nota", "rates", "thens", "timesx", "withinx", "ands", "ors", "zzzzzzzz"} {
		taken(t, 0, "within 5 rate 5 "+name+":1 if "+name+".a = 1")
	}
	for _, word := range []string{"within", "rate", "then", "not", "if", "times", "and", "or", "it", "abcdefghi", "withinwithin"} {
		if word != "not" {
			refused(t, api.ErrText, "within 5 rate 5 @"+word+":1")
		}
		if word != "it" {
			refused(t, api.ErrText, "within 5 rate 5 x:1 if @"+word+".a = 1")
		}
		refused(t, api.ErrText, "within 5 rate 5 x:1 if x.@"+word+" = 1", "@"+word+"s"+word+" 5")
	}
	refused(t, api.ErrText, "within 5 rate 5 not@:1", "within 5 rate 5 x:1 if x.@d = 1", "within 5 rate 5 x:1 if it.@aa = 1", "within 5 rate 5 x:1 if it.@x = 1", "within 5 rate 5 x:1 if xx @= 1")
}

func TestP3Grammar(t *testing.T) {
	refused(t, api.ErrText,
		"@x", "@5", "@(", "@rate 5", "@withi 5", "within @within 5", "within @x", "within @-1 rate 1 x:1", "within 5 @x", "within 5 @5", "within 5 rate @rate", "within 5 rate @x:1",
		"within 5 rate 5 @5", "within 5 rate 5 @:", "within 5 rate 5 @then x:1", "within 5 rate 5 @if 1 = 1", "within 5 rate 5 @) x:1", "within 5 rate 5 @|", "within 5 rate 5 @within 5 rate 5 x:1",
		"within 5 rate 5 x @y", "within 5 rate 5 x@.1", "within 5 rate 5 x:@y", "within 5 rate 5 x:@-1", "within 5 rate 5 x:@:1", "within 5 rate 5 x:1 @y:2", "within 5 rate 5 x:1 @2", "within 5 rate 5 x:1@)", "within 5 rate 5 x:1@|y:1", "within 5 rate 5 x:1 @not 2", "within 5 rate 5 x:1 then @then y:1", "within 5 rate 5 x:1 @and y:1",
		"within 5 rate 5 x:1 times @x", "within 5 rate 5 x:1 times 2 @times 2", "within 5 rate 5 x:1 times @if 1 = 1", "within 5 rate 5 x:1 if 1 = 1 @times 2", "within 5 rate 5 x:1 if 1 = 1 @if 1 = 1",
		"within 5 rate 5 x:1 then not @x", "within 5 rate 5 x:1 then not @not 1", "within 5 rate 5 x:1 then not 2 @times 2 then y:1", "within 5 rate 5 x:1 then not 2@:1", "within 5 rate 5 x:1 then not @(y:1|z:1)",
		"within 5 rate 5 (@)", "within 5 rate 5 (@|x:1)", "within 5 rate 5 (x:1@)", "within 5 rate 5 ((x:1|y:1)@)", "within 5 rate 5 (x:1|@)", "within 5 rate 5 (x:1|@|y:1)", "within 5 rate 5 (x:1|y:1)@)", "within 5 rate 5 (x:1|y:1) @times 2", "within 5 rate 5 (x:1|y:1) @if 1 = 1", "within 5 rate 5 (x:1|y:1) @(z:1|u:1)", "within 5 rate 5 (x:1 then @| y:1)", "within 5 rate 5 (x:1 @y:1|z:1)")
}

func TestP3GrammarOfConditions(t *testing.T) {
	taken(t, 0, "within 5 rate 5 x:1 if 1=2 or 1!=2 and 1<2 or 1<=2 and 1>2 or 1>=2")
	taken(t, 0, "within 5 rate 5 x:1 if x.a+x.b-x.c*x.t/it.a = it.b - - it.c + -(it.t)")
	taken(t, 0, "within 5 rate 5 (x:1 if (1) = (2)|x:2 if ((1)) > 1)")
	start := "within 5 rate 5 x:1 if "
	for _, text := range []string{
		"@then", "@=", "@= 1", "@and", "@not 1 = 1", "@if", "@+1 = 1", "@*1 = 1", "@) = 1", "@: = 1", "@. = 1",
		"1 @then", "1 @and 1 = 1", "1 @1", "1 @x.a = 1", "1 @) = 1", "1 @(1) = 1", "1 @: 1", "1@.a = 1", "1 @| 1",
		"1 = @", "1 = @then", "1 = @= 1", "1 = @or", "1 = 1 @= 1", "1 = 1 @1", "1 = 1 @x.a", "1 = 1 @)", "1 = 1 @|", "1 < @> 1", "1 > @= 1", "1 = @< 1", "1 < @!= 1", "1 != 1 @!= 1",
		"1 = 1 and @", "1 = 1 and @or 1 = 1", "1 = 1 or @and 1 = 1", "1 = 1 and 1 @and 1 = 1", "1 = 1 and @if 1 = 1",
		"(@) = 1", "(1 @= 1)", "(x.a @= 1) and 1 = 1", "((1) @= 1)", "(1 @and 1)", "(1 @| 1) = 1", "(1@", "(1 @then y:1", "(1 + 1 @= 1",
		"1 + @= 1", "1 + @+ 1 = 1", "1 * @/ 1 = 1", "1 * @) = 1", "- @= 1", "- @+ 1 = 1", "-@", "1 - - @* 1 = 1",
		"x @= 1", "x@:1", "x. @= 1", "x.@1 = 1", "x.@it = 1", "x.@. = 1", "it @= 1", "it@:1", "it.@", "it.@it = 1", "it.a@.a = 1", "x.a @b = 1", "it @it.a = 1", "x @x.a = 1", "it.@d = 1",
	} {
		refused(t, api.ErrText, start+text)
	}
	refused(t, api.ErrText, "within 5 rate 5 (x:1 if 1 = (1 @| y:1)", "within 5 rate 5 (x:1 if 1 = 1 @", "within 5 rate 5 x:1 then not 2 if @then y:1", "within 5 rate 5 x:1 then not 2 if 1 @then y:1")
}

func TestP3TextEndsTooEarly(t *testing.T) {
	for _, text := range []string{
		"", " ", "\n", " \n  ", "within", "within ", "within 5", "within 5 rate", "within 5 rate 5", "within 5 rate 5 \n", "within 5 rate 5 x", "within 5 rate 5 x:", "within 5 rate 5 x:1 times", "within 5 rate 5 x:1 if",
		"within 5 rate 5 x:1 then", "within 5 rate 5 x:1 then not", "within 5 rate 5 (", "within 5 rate 5 (x:1", "within 5 rate 5 (x:1|", "within 5 rate 5 (x:1|y:1", "within 5 rate 5 (x:1|y:1 ", "within 5 rate 5 x:1 if 1", "within 5 rate 5 x:1 if 1 =", "within 5 rate 5 x:1 if 1 = 1 or", "within 5 rate 5 x:1 if 1 = 1 and ",
		"within 5 rate 5 x:1 if x", "within 5 rate 5 x:1 if x.", "within 5 rate 5 x:1 if x.a", "within 5 rate 5 x:1 if it", "within 5 rate 5 x:1 if -", "within 5 rate 5 x:1 if (1", "within 5 rate 5 x:1 if (1)", "within 5 rate 5 x:1 if 1 = 1 +", "within 5 rate 5 x:1 if 1 = 1 *   ",
	} {
		refusedAt(t, api.ErrText, len(text), text)
	}
}

func TestP3MaxText(t *testing.T) {
	pattern := "within 5 rate 5 x:1 then y:2"
	for _, blank := range []string{" ", "\n"} {
		taken(t, 5, pattern+strings.Repeat(blank, 599-len(pattern)))
		taken(t, 5, pattern+strings.Repeat(blank, 600-len(pattern)))
		taken(t, 5, strings.Repeat(blank, 600-len(pattern))+pattern)
		refusedAt(t, api.ErrText, 600, pattern+strings.Repeat(blank, 601-len(pattern)))
		refusedAt(t, api.ErrText, 600, strings.Repeat(blank, 601-len(pattern))+pattern)
		refusedAt(t, api.ErrText, 599, strings.Repeat(blank, 599))
		refusedAt(t, api.ErrText, 600, strings.Repeat(blank, 600))
		refusedAt(t, api.ErrText, 600, strings.Repeat(blank, 601))
		refusedAt(t, api.ErrText, 600, strings.Repeat(blank, 5000))
	}
	refusedAt(t, api.ErrText, 600, "within 5 rate 13 x:1 then x:100"+strings.Repeat(" ", 600))
	refusedAt(t, api.ErrText, 599, strings.Repeat(" ", 599)+";")
}

func TestP3Depth(t *testing.T) {
	taken(t, 0, "within 5 rate 5 x:1 if ((((((((1)))))))) = ((((((((1))))))))")
	taken(t, 0, "within 5 rate 5 x:1 if --------1 = --------1")
	taken(t, 0, "within 5 rate 5 x:1 if -(-(-(-(1)))) = -(-(-(-(it.a)))) + --------x.a * --------1")
	taken(t, 0, "within 5 rate 5 x:1 if ((((((((1-1-1-1-1-1-1-1-1-1)))))))) = 1")
	taken(t, 0, "within 5 rate 5 x:1 if (((((((-1 + (1))))))))-(1) = 1")
	taken(t, 0, "within 5 rate 5 ((((((((x:1|x:1)|x:1)|x:1)|x:1)|x:1)|x:1)|x:1 if -1 = (1))|x:1)")
	refused(t, api.ErrDeep,
		"within 5 rate 5 x:1 if ((((((((@(1))))))))) = 1", "within 5 rate 5 x:1 if 1 = ((((((((@(1)))))))))", "within 5 rate 5 x:1 if --------@-1 = 1", "within 5 rate 5 x:1 if --------@(1) = 1", "within 5 rate 5 x:1 if ((((((((@-1)))))))) = 1",
		"within 5 rate 5 x:1 if -(-(-(-(@-(1))))) = 1", "within 5 rate 5 x:1 if ((((((((1 - @-1)))))))) = 1", "within 5 rate 5 x:1 if ((((((((1 + 1 * @(1))))))))) = 1", "within 5 rate 5 x:1 if --------@-----(1) = ---------1",
		"within 5 rate 5 ((((((((@(x:1|x:1)|x:1)|x:1)|x:1)|x:1)|x:1)|x:1)|x:1)|x:1)", "within 5 rate 5 ((((((((x:1|x:1 if @-1 = 1)|x:1)|x:1)|x:1)|x:1)|x:1)|x:1)|x:1)", "within 5 rate 5 ((((((((x:1|x:1 if @(1) = 1)|x:1)|x:1)|x:1)|x:1)|x:1)|x:1)|x:1)",
		"within 5 rate 5 (x:1|(x:1|(x:1|(x:1|(x:1|(x:1|(x:1|(x:1|@(x:1|x:1)))))))))", "within 5 rate 5 x:1 then not 2 if ((((((((@(1))))))))) = 1 then y:1", "within 5 rate 5 (x:1|y:1 if (((((((@(1)))))))) = 1)")
}

func TestP3Numbers(t *testing.T) {
	for _, c := range []struct {
		head, tail string
		low, high  string
	}{
		{"within ", " rate 1 x:1", "1", "1000000"}, {"within 1 rate ", " x:1", "1", "12"}, {"within 1 rate 1 x:", "", "0", "99"}, {"within 1 rate 1 x:1 then not ", " then y:1", "0", "99"}, {"within 1 rate 1 x:1 times ", "", "1", "4"}, {"within 1 rate 1 x:1 if ", " = 1", "0", "999999999"},
	} {
		bound := strings.Count(c.tail, "then") // at the rate 1 a second step makes one run
		taken(t, bound, c.head+c.low+c.tail)
		taken(t, bound, c.head+"00"+c.low+c.tail)
		if !strings.HasSuffix(c.head, "times ") {
			taken(t, bound, c.head+c.high+c.tail)
		} else {
			taken(t, 1, c.head+c.high+c.tail)
		}
	}
	refused(t, api.ErrNumber,
		"within @0 rate 1 x:1", "within @000 rate 1 x:1", "within @1000001 rate 1 x:1", "within @999999999 rate 1 x:1", "within 1 rate @0 x:1", "within 1 rate @13 x:1", "within 1 rate @999999999 x:1", "within 1 rate 1 x:@100", "within 1 rate 1 x:@0100", "within 1 rate 1 x:@999999999",
		"within 1 rate 1 x:1 then not @100 then y:1", "within 1 rate 1 x:1 times @0", "within 1 rate 1 x:1 times @5", "within 1 rate 1 x:1 times @999999999", "within 1 rate 1 (x:1|x:1 times @5)",
		"within @0 rate 0 x:100 times 0", "within 1 rate @0 x:100 times 0", "within 1 rate 1 x:@100 times 0", "within 1 rate 1 x:1 if 500 = 500 then y:2 times @0 then not 100 then z:100", "within 1 rate 1 (x:1|y:@100) then z:200")
}

func TestP3PathsAndSteps(t *testing.T) {
	taken(t, 0, "within 1 rate 1 (a:1|b:1|c:1|d:1|e:1|f:1|g:1|h:1|i:1|j:1|k:1|l:1|m:1|n:1|o:1|p:1)")
	taken(t, 16, "within 1 rate 1 (a:1|b:1|c:1|d:1) then (e:1|f:1|(g:1|h:1))")
	taken(t, 0, "within 1 rate 1 (x:1|x:1|(x:1|(x:1|x:1)))")
	taken(t, 13, "within 1 rate 1 x:1 then (a:1|b:1|c:1|d:1|e:1|f:1|g:1|h:1|i:1|j:1|k:1|l:1|m:1)")
	taken(t, 1, "within 1 rate 1 a:1 then b:1 then c:1 then d:1 then e:1 then f:1 then g:1 then h:1")
	taken(t, 1, "within 1 rate 1 a:1 times 3 then b:1 times 4 then not 1 then not 2 then not 3 then c:1")
	taken(t, 2, "within 1 rate 1 (a:1 times 4|b:1 times 3) then c:1 times 4")
	refused(t, api.ErrBig,
		"within 1 rate 1 (a:1|b:1|c:1|d:1|e:1|f:1|g:1|h:1|i:1|j:1|k:1|l:1|m:1|n:1|o:1|p:1|q:1)", "within 1 rate 1 (x:1|x:1|x:1|x:1|x:1|x:1|x:1|x:1|x:1|x:1|x:1|x:1|x:1|x:1|x:1|x:1|x:1)", "within 1 rate 1 (a:1|b:1|(c:1|d:1) then (e:1|f:1)) then (g:1|h:1|i:1)",
		"within 1 rate 1 (a:1|b:1|c:1|d:1) then (e:1|f:1|(g:1|h:1|i:1))", "within 1 rate 1 a:1 then b:1 then c:1 then d:1 then e:1 then f:1 then g:1 then h:1 then i:1", "within 1 rate 1 (a:1 times 4|b:1 times 3) then c:1 times 4 then (d:1|e:1)", "within 1 rate 1 a:1 times 4 then b:1 times 4 then c:1", "within 1 rate 1 (x:1|a:1 times 4 then b:1 times 4 then c:1)")
}

func TestP3Guards(t *testing.T) {
	taken(t, 5, "within 1 rate 5 x:1 then not 1 then y:1")
	taken(t, 10, "within 1 rate 5 (x:1|y:1) then not 1 then not 2 then z:1")
	taken(t, 10, "within 1 rate 5 x:1 then (not 1 then y:1|not 2 then y:1)")
	taken(t, 15+5, "within 1 rate 5 x:1 then (not 1|y:1) then z:1")
	taken(t, 10, "within 1 rate 5 (x:1 then not 1|y:1) then z:1")
	refused(t, api.ErrText,
		"within 1 rate 1 @not 1", "within 1 rate 1 @not 1 then not 2", "within 1 rate 1 @not 1 then x:1", "within 1 rate 1 x:1 then @not 1", "within 1 rate 1 x:1 then @not 1 then not 2", "within 1 rate 1 (x:1|@not 1) then y:1", "within 1 rate 1 (@not 1 then x:1|x:1)",
		"within 1 rate 1 (x:1|@not 1) then not 2 then y:1", "within 1 rate 1 x:1 then @not 1 then (y:1|not 2)", "within 1 rate 1 x:1 then (y:1|@not 2)", "within 1 rate 1 x:1 then (y:1|y:1 then @not 1)", "within 1 rate 1 x:1 then (not 1 then y:1|@not 2 then not 3)",
		"within 1 rate 1 (x:1 then @not 1|not 2 then x:1)", "within 1 rate 1 (x:1|@not 1 then y:1) then z:1")
}

func TestP3Twice(t *testing.T) {
	taken(t, 10, "within 1 rate 5 (x:1|x:2) then y:1")
	taken(t, 15, "within 1 rate 5 x:1 times 2 then y:1")
	taken(t, 20, "within 1 rate 5 (x:1 then y:1|y:1 then x:1|x:1 then y:1|y:1 then x:1)")
	refused(t, api.ErrTwice,
		"within 1 rate 1 x:1 then @x:1", "within 1 rate 1 x:1 then y:1 then @x:2", "within 1 rate 1 x:1 times 2 then @x:1 times 2", "within 1 rate 1 x:1 then @x:1 then x:1", "within 1 rate 1 (x:1|y:1) then @y:1", "within 1 rate 1 (x:1|y:1) then (@x:1|y:1)",
		"within 1 rate 1 (x:1|y:1) then (z:1|@y:1)", "within 1 rate 1 x:1 then not 1 then @x:1", "within 1 rate 1 x:1 then (y:1|z:1 then @x:1)", "within 1 rate 1 (x:1|y:1 then @y:1) then x:1", "within 1 rate 1 x:1 then y:1 then @y:1 then x:1")
}

func TestP3NamesInConditions(t *testing.T) {
	taken(t, 0, "within 1 rate 5 x:1 if x.a = it.b")
	taken(t, 5, "within 1 rate 5 x:1 then y:1 if x.a = y.a and it.a = 1")
	taken(t, 5, "within 1 rate 5 x:1 then not 1 if x.a = it.a then y:1")
	taken(t, 10, "within 1 rate 5 (x:1|x:2 times 1) then y:1 if x.a = 1")
	taken(t, 20, "within 1 rate 5 (x:1|y:1 then x:2) then z:1 if x.a = 1")
	taken(t, 15, "within 1 rate 5 x:1 times 3 if x.a = 1")
	taken(t, 20, "within 1 rate 5 (x:1 then z:1 if x.a = 1|y:1 then z:1 if y.a = 1|x:1 then y:1|y:1 then x:1)")
	refused(t, api.ErrName,
		"within 1 rate 1 x:1 if @y.a = 1", "within 1 rate 1 x:1 if x.a = @y.a or z.a = 1", "within 1 rate 1 x:1 if 1 = 1 or 1 = 1 and - (3 * - @y.t) = z.a", "within 1 rate 1 x:1 if @y.a = 1 then y:1", "within 1 rate 1 x:1 then y:1 if @z.a = x.a then z:1",
		"within 1 rate 1 x:1 then not 1 if @y.a = 1 then y:1", "within 1 rate 1 x:1 then not 1 if it.a = x.a and it.a = @z.a then y:1", "within 1 rate 1 (x:1|y:1) then z:1 if @x.a = 1", "within 1 rate 1 (x:1|y:1) then z:1 if @y.a = x.a", "within 1 rate 1 (x:1|y:1) then not 1 if @y.a = 1 then z:1",
		"within 1 rate 1 (x:1|y:1 if @x.a = 1) then z:1", "within 1 rate 1 (x:1 then y:1|z:1 then y:1 if @x.a = 1)", "within 1 rate 1 x:1 then (y:1|z:1) then u:1 if x.a = 1 and @z.a = 1", "within 1 rate 1 (x:1|y:1) then z:1 if z.a = 1 then u:1 if z.a = @x.a")
}

func TestP3TwiceOrNameWhicheverStandsFirst(t *testing.T) {
	refused(t, api.ErrTwice, "within 1 rate 1 x:1 then @x:1 if z.a = 1", "within 1 rate 1 x:1 then (y:1|@x:1) then z:1 if y.a = 1")
	refused(t, api.ErrName, "within 1 rate 1 x:1 if @z.a = 1 then x:1", "within 1 rate 1 (x:1|y:1 if @x.a = 1) then x:1", "within 1 rate 1 (x:1|y:1) then not 1 if @x.a = 1 then y:1")
}

func TestP3Bound(t *testing.T) {
	for rate, bounds := range map[string][]int{
		"1": {0, 1, 1, 1}, "2": {0, 2, 3, 3}, "3": {0, 3, 6, 7}, "5": {0, 5, 15, 25}, "12": {0, 12, 78, 298},
	} {
		for k, times := range []string{"1", "2", "3", "4"} {
			taken(t, bounds[k], "within 9 rate "+rate+" x:1 times "+times)
		}
	}
	taken(t, 3301, "within 9 rate 12 x:1 times 4 then y:1 times 4")
	taken(t, 254, "within 9 rate 8 x:1 times 4 then y:1 times 4")
	taken(t, 3301+298, "within 9 rate 12 (x:1 times 4 then y:1 times 4|x:1 times 4)")
	two, five, six := "x:1 times 2", "x:1 times 4 then y:1", "x:1 times 4 then y:1 times 2"
	taken(t, 4000, "within 9 rate 12 ("+strings.Join([]string{two, two, two, five, five, five, six}, "|")+")")
	refused(t, api.ErrBig,
		"within 9 rate 12 ("+strings.Join([]string{two, two, two, five, five, five, five, five}, "|")+")",
		"within 9 rate 12 (x:1 times 4|x:2 times 4) then y:1 times 4",
		"within 9 rate 12 (x:1|x:2|x:3|x:4|x:5|x:6) then y:1 times 4")
}
