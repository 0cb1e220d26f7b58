package rinse

import (
	"strings"
	"testing"

	"rinse/api"
)

func TestP5Substitution(t *testing.T) {
	for _, c := range []struct{ value, want string }{
		{"var(--x)", "a"},
		{"VAR( --x )", "a"},
		{"v\\61r(/**/--x/**/)", "a"},
		{"var(--\\78)", "a"},
		{"var(--x", "a"},
		{"var(--x)var(--x)", "a/**/a"},
		{"var(--x) var(--x)", "a a"},
		{"var(--x),var(--x)", "a,a"},
		{"b var(--x)", "b a"},
		{"b/**/var(--x)", "b/**/a"},
		{"var(--x)b", "a/**/b"},
		{"var(--x)f()", "a/**/f()"},
		{"f()var(--x)", "f()a"},
		{"var(--x)(b)", "a/**/(b)"},
		{"var(--x)[b]", "a[b]"},
		{"(b)var(--x)", "(b)a"},
		{"f(var(--x))", "f(a)"},
		{"f( 1px + var(--x) )", "f( 1px + a )"},
		{"({[f(g(var(--x)))]})", "({[f(g(a))]})"},
		{"var(--list)b", "b,/**/b"},
		{"b var(--block)b", "b [c]/**/b"},
		{"b/**/var(--block)", "b/**/[c]"},
		{"var(--words)", "1px \"d\""},
		{"var(--far)", "e"},
		{"var(--var)", "a/**/b"},
		{"var(--inherit)", "i"},
		{"'var(--x)'", "\"var(--x)\""},
		{"var", "var"},
		{"var (--x)", "var (--x)"},
		{"#var (--x)", "#var (--x)"},
		{"vars(--x)", "vars(--x)"},
		{"-var(--x)", "-var(--x)"},
		{"--x", "--x"},
	} {
		const known = ".box{--far:e;--inherit:i}p{--x:a;--list:b,;--block:[c];--words: 1px  'd' ;--var:var(--x)b;--inherit:inherit}"
		checkComputed(t, 2, "top", c.want, known+"p{top:"+c.value)
		checkComputed(t, 2, "color", c.want, known+"p{color:"+c.value)
		checkComputed(t, 2, "--y", c.want, known+"p{--y:"+c.value)
	}
}

func TestP5Fallbacks(t *testing.T) {
	for _, c := range []struct{ value, want string }{
		{"var(--x,b)", "a"},
		{"var(--x,var(--no))", "a"},
		{"var(--x,)", "a"},
		{"var(--no,b)", "b"},
		{"var( --no , b )", "b"},
		{"var(--no /**/ , /**/ b  c /**/ )", "b c"},
		{"var(--no,b,c)", "b,c"},
		{"var(--no,,)", ","},
		{"var(--no,b;c!d)", "b;c/**/!/**/d"},
		{"var(--no,var(--x))", "a"},
		{"var(--no,var(--no,var(--no,b)))", "b"},
		{"var(--no,f(var(--x) var(--no,b)))", "f(a b)"},
		{"var(--no,[b])c", "[b]/**/c"},
		{"c/**/var(--no,[b])", "c/**/[b]"},
		{"var(--no,b,)c", "b,/**/c"},
		{"c var(--no,)", "c "},
		{"c var(--no, )d", "c /**/d"},
		{"c/**/var(--no,)", "c/**/"},
		{"var(--empty,b)", "b"},
		{"var(--initial,b)", "b"},
		{"var(--empty2,b)", "b"},
		{"var(--failed,b)", "b"},
		{"var(--bad,b)", "b"},
		{"var(--X,b)", "b"},
		{"var(--no,inherit)", "inherit"},
		{"var(--no,initial)", "initial"},
		{"var(--no,unset)", "unset"},
	} {
		const known = ".box{--empty:1;--initial:2;color:0;--y:0}p{--x:a;--empty:;--initial:initial;--empty2:var(--no,);--failed:var(--no);--bad:url(a b)}"
		checkComputed(t, 2, "top", c.want, known+"p{top:"+c.value+"}")
		checkComputed(t, 2, "color", c.want, known+"p{color:"+c.value+"}")
		checkComputed(t, 2, "--y", c.want, known+"p{--y:"+c.value+"}")
	}
	// A fallback of nothing is one: the parent's is not asked.
	checkComputed(t, 2, "color", "", ".box{color:0}p{color:var(--no,)}")
	checkComputed(t, 2, "color", "", ".box{color:0}p{color:var(--no, )}")
}

func TestP5SubstitutionFails(t *testing.T) {
	for _, value := range []string{
		"var()", "var( )", "var(x)", "var(-x)", "var('--x')", "var(#--x)", "var(1)", "var(,b)", "var(x,b)", "var(--x b)", "var(--x b,c)", "var(--x/**/--x)",
		"var(--x;b)", "var(--x())", "var((--x))", "var(--x:)", "var(var(--x))", "var(--no)", "var(--no,var(--no))", "var(--no,var(x))", "var(--no,f(var()))",
		"b var(--no) c", "f(var(--no))", "[{(var())}]", "var(--x)var(--no)", "var(--no,b)var(--no)", "var(--X)", "var(--empty)", "var(--initial)",
	} {
		const known = ".box{top:0;color:0;--y:0}p{--x:a;--empty:;--initial:initial}"
		checkComputed(t, 2, "top", "", known+"p{top:"+value+"}")
		checkComputed(t, 2, "color", "0", known+"p{color:"+value+"}")
		checkComputed(t, 2, "--y", "0", known+"p{--y:"+value+"}")
		// It is the winner's value that fails: those ahead of it do not count for that.
		checkComputed(t, 2, "top", "", known+"p{top:1;top:"+value+"}")
	}
}

// What a custom property comes to is asked of the element itself, and handed down as it came out there.
func TestP5SubstitutionAcrossElements(t *testing.T) {
	checkComputed(t, 2, "top", "1", ".box{--x:1}p{top:var(--x)}")
	checkComputed(t, 5, "top", "1", ".box{--x:1}p{top:var(--x)}")
	checkComputed(t, 2, "top", "2", ".box{--x:1}p{--x:2;top:var(--x)}")
	checkComputed(t, 2, "--y", "1", ".box{--x:1;--y:var(--x)}p{--x:2}")
	checkComputed(t, 2, "top", "1", ".box{--x:1;--y:var(--x)}p{--x:2;top:var(--y)}")
	checkComputed(t, 2, "top", "2", ".box{--x:1;--y:var(--x)}p{--x:2;--y:var(--x);top:var(--y)}")
	checkComputed(t, 2, "--y", "1", ".box{--x:1}p{--y:var(--x);--x:unset}")
	checkComputed(t, 2, "--y", "b", ".box{--x:1}p{--y:var(--x,b);--x:initial}")
	checkComputed(t, 2, "top", "1", "p{top:var(--x)}", "#a{--x:1}", ".x{--x:2}")
	checkComputed(t, 6, "top", "", ".box{--x:1}div{top:var(--x)}")
}

func TestP5Loops(t *testing.T) {
	const above = ".box{--a:1;--b:2;--c:3;--d:4}"
	for _, c := range []struct{ body, a, b, c, d string }{
		{"--a:var(--a)", "", "2", "3", "4"},
		{"--a:var(--a,x)", "", "2", "3", "4"},
		{"--a:var(--no,var(--a))", "", "2", "3", "4"},
		{"--a:var(--b,var(--a))", "", "2", "3", "4"},
		{"--a:f(x,[var(--a)])", "", "2", "3", "4"},
		{"--a:var(x) var(--a)", "", "2", "3", "4"},
		{"--a:var(x var(--a))", "", "2", "3", "4"},
		{"--a:VAR(--a)", "", "2", "3", "4"},
		{"--a:var(--b);--b:var(--a)", "", "", "3", "4"},
		{"--a:var(--b,x);--b:var(--a,y)", "", "", "3", "4"},
		{"--a:var(--b);--b:var(--c);--c:var(--a)", "", "", "", "4"},
		{"--a:var(--b);--b:var(--c);--c:var(--b)", "1", "", "", "4"},
		{"--a:var(--b,x);--b:var(--b)", "x", "", "3", "4"},
		{"--a:var(--b,x);--b:var(--c,y);--c:var(--c)", "y", "y", "", "4"},
		{"--a:x var(--no,var(--d));--b:var(--a);--c:var(--b);--d:var(--no,var(--a))", "", "2", "2", ""},
		{"--a:var(--b);--b:var(--c) var(--a);--c:var(--d,var(--c));--d:x", "", "", "", "x"},
		{"--a:var(--b)var(--b);--b:var(--c)var(--c);--c:x", "x/**/x/**/x/**/x", "x/**/x", "x", "4"},
		{"--a:var(--A);--A:x", "x", "2", "3", "4"},
		{"--a:'var(--a)'", "\"var(--a)\"", "2", "3", "4"},
		{"--a:var(--b);--b:inherit", "2", "2", "3", "4"},
		{"--a:var(--b);--b:var(--a);--a:x", "x", "x", "3", "4"},
	} {
		sheet := above + "p{" + c.body + "}"
		for property, want := range map[string]string{"--a": c.a, "--b": c.b, "--c": c.c, "--d": c.d} {
			checkComputed(t, 2, property, want, sheet)
		}
	}
	// No loop: the names are of other elements.
	checkComputed(t, 2, "--a", "x", ".box{--a:x;--b:var(--a)}p{--a:var(--b)}")
	checkComputed(t, 5, "--a", "", ".box{--a:x}b{--a:var(--a)}p{--a:inherit}")
	// A property that is not custom is not one of the names.
	checkComputed(t, 2, "color", "b", "p{color:var(--color,b)}")
	checkComputed(t, 2, "top", "f", "p{--a:var(--a);top:var(--a,f)}")
}

func TestP5MaxValue(t *testing.T) {
	half := strings.Repeat("a", api.MaxValue/2)
	rest := strings.Repeat("b", api.MaxValue/2-1)
	for _, property := range []string{"top", "color", "--y"} {
		failed := ""
		if property != "top" {
			failed = "0"
		}
		above := "div{" + property + ":0}"
		checkComputed(t, 2, property, half+" "+rest, above+"p{--x:"+half+";"+property+":var(--x) "+rest+"}")
		checkComputed(t, 2, property, failed, above+"p{--x:"+half+";"+property+":var(--x) "+rest+"b}")
		checkComputed(t, 2, property, half+" "+rest, above+"p{"+property+":var(--no,"+half+") "+rest+"}")
		checkComputed(t, 2, property, failed, above+"p{"+property+":var(--no,"+half+") "+rest+"b}")
	}
	// It is what is written that is counted.
	escapes := strings.Repeat("é", api.MaxValue/8)
	checkComputed(t, 2, "top", strings.Repeat("\\c3 \\a9 ", api.MaxValue/8), "p{top:var(--no,"+escapes+")}")
	checkComputed(t, 2, "top", "", "p{top:var(--no,"+escapes+"a)}")
	// A long value is not too long by itself, but where it is put in.
	long := strings.Repeat("a", api.MaxValue+1)
	checkComputed(t, 2, "--x", long, "p{--x:"+long+"}")
	checkComputed(t, 2, "top", "", "p{--x:"+long+";top:var(--x)}")
	checkComputed(t, 2, "top", "", "p{--x:"+long+";top:var(--x,b)}")
	checkComputed(t, 2, "--y", "", "p{--x:"+long+";--y:var(--x)}")
	checkComputed(t, 2, "top", "b", "p{--x:"+long+";--y:var(--x);top:var(--y,b)}")
	checkComputed(t, 5, "--x", long, "b{--x:"+long+"}")
}
