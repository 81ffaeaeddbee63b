package cred_test

import (
	"crypto/sha256"
	library "encoding/base64"
	"fmt"
	"math/rand"
	"reflect"
	"regexp"
	"slices"
	"strconv"
	"strings"
	"sync"
	"testing"

	"doorkeeper/api"
	"doorkeeper/config"
	"doorkeeper/cred"
	"doorkeeper/field"
)

const digits = "ABCDEFGHIJKLMNOPQRSTUVWXYZabcdefghijklmnopqrstuvwxyz0123456789+/"

// credentials are the parts of Basic credentials. The library skips line breaks in base64, so that they are ruled out here.
var credentials = regexp.MustCompile(`\A[Bb][Aa][Ss][Ii][Cc] +([A-Za-z0-9+/=]*)\z`)

// parsed is what Parse returns.
type parsed struct {
	name, password string
	ok             bool
}

func parse(value string) parsed {
	name, password, ok := cred.Parse(value)
	return parsed{name, password, ok}
}

// parsedOf returns what Parse returns by the definition.
func parsedOf(value string) parsed {
	found := credentials.FindStringSubmatch(value)
	if found == nil {
		return parsed{}
	}
	b, err := library.StdEncoding.Strict().DecodeString(found[1])
	end := slices.Index(b, ':')
	if err != nil || end < 0 {
		return parsed{}
	}
	return parsed{string(b[:end]), string(b[end+1:]), true}
}

// encoded returns the base64 text of a string.
func encoded(s string) string { return library.StdEncoding.EncodeToString([]byte(s)) }

// basic returns a value of Basic credentials with the base64 text of a string.
func basic(s string) string { return "Basic " + encoded(s) }

// checkIs checks Parse against what is written out.
func checkIs(t *testing.T, value string, want parsed) {
	t.Helper()
	if got := parse(value); got != want {
		t.Fatalf("Parse(%.200q) = %.200q, want %.200q", value, fmt.Sprint(got), fmt.Sprint(want))
	}
}

// check checks Parse against the definition.
func check(t *testing.T, value string) {
	t.Helper()
	checkIs(t, value, parsedOf(value))
}

// eachList calls a function for all lists of up to n elements of some pieces.
func eachList[T any](pieces []T, n int, call func(l []T)) {
	var list []T
	var extend func()
	extend = func() {
		call(slices.Clone(list))
		if len(list) == n {
			return
		}
		for _, p := range pieces {
			list = append(list, p)
			extend()
			list = list[:len(list)-1]
		}
	}
	extend()
}

// eachByte calls a function for each byte.
func eachByte(call func(c string)) {
	for n := range 256 {
		call(string([]byte{byte(n)}))
	}
}

// randomString returns a string of some bytes.
func randomString(random *rand.Rand, n int) string {
	b := make([]byte, n)
	random.Read(b)
	return string(b)
}

// P21.1: names and passwords are written out.
func TestParse(t *testing.T) {
	for _, c := range []struct{ value, name, password string }{
		{"Basic dTpw", "u", "p"},
		{"basic dTpw", "u", "p"},
		{"BASIC dTpw", "u", "p"},
		{"bAsIc dTpw", "u", "p"},
		{"Basic  dTpw", "u", "p"},
		{"Basic" + strings.Repeat(" ", 1000) + "dTpw", "u", "p"},
		{"Basic QWxhZGRpbjpvcGVuIHNlc2FtZQ==", "Aladdin", "open sesame"},
		{"Basic Og==", "", ""},
		{"Basic Ojo=", "", ":"},
		{"Basic Ojo6", "", "::"},
		{"Basic dTo=", "u", ""},
		{"Basic OnA=", "", "p"},
		{"Basic YTpiOmM=", "a", "b:c"},
		{"Basic YTo6Yg==", "a", ":b"},
		{"Basic KjphCg==", "*", "a\n"},
		{"Basic ICB1IDogcCA=", "  u ", " p "},
		{"Basic gP86AAA=", "\x80\xff", "\x00\x00"},
		{"Basic w6k64oKs", "é", "€"},
		{"Basic Pj8+Oj8/Pg==", ">?>", "??>"},
	} {
		checkIs(t, c.value, parsed{c.name, c.password, true})
		check(t, c.value)
	}
}

// P21.1: values that are no Basic credentials.
func TestParseWrong(t *testing.T) {
	for _, value := range []string{
		"",
		" ",
		"dTpw",
		"u:p",
		"Basic",
		"Basic ",
		"Basic   ",
		"BasicdTpw",
		"Basic\tdTpw",
		"Basic \tdTpw",
		"Basic\t dTpw",
		"Basic\u00a0dTpw",
		"Basic\ndTpw",
		"Basic:dTpw",
		"Basic, dTpw",
		"Basic=dTpw",
		"Basic u:p",
		" Basic dTpw",
		"\tBasic dTpw",
		"\x00Basic dTpw",
		"\ufeffBasic dTpw",
		"\"Basic\" dTpw",
		"Basic \"dTpw\"",
		"Basic dTpw ",
		"Basic dTpw\t",
		"Basic dTpw\n",
		"Basic dTpw\r\n",
		"Basic dT\npw",
		"Basic dT pw",
		"Basic dTpw dTpw",
		"Basic dTpw,Basic dTpw",
		"Basic dTpw, Basic dTpw",
		"Basic Basic dTpw",
		"Basic dTpw,",
		"Basic dTpw;a=b",
		"Basic realm=\"r\"",
		// Other schemes.
		"Basi dTpw",
		"Basics dTpw",
		"Bbsic dTpw",
		"BBasic dTpw",
		"asic dTpw",
		"Bearer dTpw",
		"Digest dTpw",
		"Negotiate dTpw",
		"* dTpw",
		"B dTpw",
		" dTpw",
		// These have the letters only if case is that of all runes, or is a bit.
		"BAS\u0130C dTpw",
		"Bas\u0131c dTpw",
		"Ba\u017fic dTpw",
		"\uff22asic dTpw",
		"\u0412asic dTpw",
		"B\u0430sic dTpw",
		"b\x01sic dTpw",
		"\"asic dTpw",
		"\x02asic dTpw",
		"\xc2asic dTpw",
		// No base64 texts.
		"Basic d",
		"Basic dT",
		"Basic dTp",
		"Basic dTpwd",
		"Basic =",
		"Basic ====",
		"Basic Og",
		"Basic Og=",
		"Basic Og===",
		"Basic =Og=",
		"Basic Oh==",
		"Basic Op==",
		"Basic dTp=",
		"Basic dTo",
		"Basic dTr=",
		"Basic Pj8-Oj8_Pg==",
		"Basic dTpw====",
		"Basic Og==dTpw",
		"Basic dTp\xf0",
		"Basic d\x00pw",
		"Basic \u00e9\u00e9",
		// Without a colon.
		"Basic dQ==",
		"Basic dXA=",
		"Basic dXBw",
		"Basic AA==",
		"Basic ////",
		"Basic 77ya",
		"Basic dSBw",
	} {
		checkIs(t, value, parsed{})
		check(t, value)
	}
}

// P21.1: each byte in each place of values, in place of another and between others.
func TestParseBytes(t *testing.T) {
	for _, value := range []string{"Basic dTpw", "bASIC  Ojo=", "Basic dTpwMQ==", ""} {
		for i := range len(value) + 1 {
			eachByte(func(c string) {
				check(t, value[:i]+c+value[i:])
				if i < len(value) {
					check(t, value[:i]+c+value[i+1:])
				}
			})
		}
	}
}

// P21.1: the letters of the word in each case, and with all pairs of bytes in place of two letters.
func TestParseScheme(t *testing.T) {
	for set := range 1 << 5 {
		word := []byte("basic")
		for i := range word {
			if set>>i&1 == 1 {
				word[i] -= 32
			}
		}
		checkIs(t, string(word)+" dTpw", parsed{"u", "p", true})
	}
	eachByte(func(c string) {
		eachByte(func(d string) {
			check(t, "B"+c+d+"ic dTpw")
			check(t, "Bas"+c+d+" dTpw")
			check(t, c+"asi"+d+" dTpw")
		})
	})
}

// P21.1: all values of few pieces.
func TestParseAll(t *testing.T) {
	count := 0
	eachList([]string{"Basic", "bASIC", "basi", "c", " ", "  ", "\t", ":", "dTpw", "dTo", "=", "Og=="}, 5, func(l []string) {
		value := strings.Join(l, "")
		if parsedOf(value).ok {
			count++
		}
		check(t, value)
	})
	if count < 100 {
		t.Errorf("only %d right values", count)
	}
}

// P21.1: all base64 texts of four digits around a colon, and of few digits and equals signs.
func TestParseTexts(t *testing.T) {
	for _, c := range digits {
		for _, d := range digits {
			check(t, "Basic dT"+string(c)+string(d))
			check(t, "Basic "+string(c)+string(d)+"pw")
			check(t, "Basic "+string(c)+string(d)+"==")
			check(t, "Basic O"+string(c)+string(d)+"=")
		}
	}
	eachList([]string{"O", "g", "h", "j", "o", "=", "6"}, 6, func(l []string) { check(t, "Basic "+strings.Join(l, "")) })
}

// P21.1: random bytes, and changed texts of them.
func TestParseRandom(t *testing.T) {
	random := rand.New(rand.NewSource(211))
	right := 0
	for range 100000 {
		s := []byte(randomString(random, random.Intn(20)))
		for range random.Intn(3) {
			if len(s) > 0 {
				s[random.Intn(len(s))] = ':'
			}
		}
		value := []byte(basic(string(s)))
		if random.Intn(4) == 0 {
			value[random.Intn(len(value))] = byte(random.Intn(256))
		}
		check(t, string(value))
		if parsedOf(string(value)).ok {
			right++
		}
	}
	if right < 10000 {
		t.Errorf("only %d right values", right)
	}
}

// P21.1: long values.
func TestParseLong(t *testing.T) {
	const n = 1 << 22
	long := strings.Repeat("ab\x00\xff", n/4)
	for _, c := range []struct {
		value string
		want  parsed
	}{
		{basic(long + ":" + long), parsed{long, long, true}},
		{basic(":" + long), parsed{"", long, true}},
		{basic(long + ":"), parsed{long, "", true}},
		{basic(long), parsed{}},
		{basic(strings.Repeat(":", n)), parsed{"", strings.Repeat(":", n-1), true}},
		{"Basic" + strings.Repeat(" ", n) + "dTpw", parsed{"u", "p", true}},
		{"Basic" + strings.Repeat(" ", n), parsed{}},
		{strings.Repeat(" ", n) + "Basic dTpw", parsed{}},
		{"Basic dTpw" + strings.Repeat(" ", n), parsed{}},
		{strings.Repeat("Basic", n) + " dTpw", parsed{}},
		{basic(":"+long) + "\n", parsed{}},
		{"Basic " + strings.Repeat("=", n), parsed{}},
		{strings.Repeat("a", n), parsed{}},
	} {
		checkIs(t, c.value, c.want)
	}
}

// P21.2: the texts are written out.
func TestText(t *testing.T) {
	for _, c := range []struct{ name, password, want string }{
		{"u", "p", "Basic dTpw"},
		{"Aladdin", "open sesame", "Basic QWxhZGRpbjpvcGVuIHNlc2FtZQ=="},
		{"", "", "Basic Og=="},
		{"", ":", "Basic Ojo="},
		{":", "", "Basic Ojo="},
		{":", ":", "Basic Ojo6"},
		{"u", "", "Basic dTo="},
		{"", "p", "Basic OnA="},
		{"a", "b:c", "Basic YTpiOmM="},
		{"a:b", "c", "Basic YTpiOmM="},
		{"*", "a\n", "Basic KjphCg=="},
		{"\x80\xff", "\x00\x00", "Basic gP86AAA="},
		{"é", "€", "Basic w6k64oKs"},
		{">?>", "??>", "Basic Pj8+Oj8/Pg=="},
	} {
		if got := cred.Text(c.name, c.password); got != c.want {
			t.Errorf("Text(%q, %q) = %q, want %q", c.name, c.password, got, c.want)
		}
	}
}

// checkText checks Text against the definition, and Parse for the text: the name ends at its first colon.
func checkText(t *testing.T, name, password string) {
	t.Helper()
	got := cred.Text(name, password)
	if want := basic(name + ":" + password); got != want {
		t.Fatalf("Text(%.100q, %.100q) = %.100q, want %.100q", name, password, got, want)
	}
	before, after, _ := strings.Cut(name+":"+password, ":")
	checkIs(t, got, parsed{before, after, true})
	if !strings.Contains(name, ":") {
		checkIs(t, got, parsed{name, password, true})
	}
}

// P21.2, P21.5: each byte at the beginning and the end of names and passwords.
func TestTextBytes(t *testing.T) {
	eachByte(func(c string) {
		for _, rest := range []string{"", "a", "ab", "abc", "é", " "} {
			for _, other := range []string{"", "u", ":", "pw"} {
				checkText(t, c+rest, other)
				checkText(t, rest+c, other)
				checkText(t, other, c+rest)
				checkText(t, other, rest+c)
			}
		}
		eachByte(func(d string) { checkText(t, c, d) })
	})
}

// P21.2, P21.5: random names and passwords, of all lengths.
func TestTextRandom(t *testing.T) {
	random := rand.New(rand.NewSource(212))
	for n := range 70 {
		for m := range 70 {
			checkText(t, randomString(random, n), randomString(random, m))
			checkText(t, strings.ReplaceAll(randomString(random, n), ":", ";"), strings.Repeat(":", m))
		}
	}
	long := strings.Repeat("abc\xff", 1<<20)
	checkText(t, long, long)
	checkText(t, long, "")
	checkText(t, "", long)
}

// hashOf returns the hash of a password by the definition of layer 8.
func hashOf(salt, name, password string) string {
	return fmt.Sprintf("%x", sha256.Sum256([]byte(salt+":"+name+":"+password)))
}

// user returns a user with a password.
func user(name, salt, password string) api.User {
	return api.User{Name: name, Salt: salt, Hash: hashOf(salt, name, password)}
}

// with returns a configuration with users, which is right in all else.
func with(users ...api.User) api.Config {
	return api.Config{
		Hosts:  []api.Host{{Names: []string{"h"}, Rules: []api.Rule{{}}}},
		Users:  users,
		Index:  "index.html",
		Limits: api.Limits{Line: 8000, Head: 64000, Fields: 100, Body: 1 << 20},
	}
}

// verifyOf returns what Verify returns by the definition: the user with a name is the first one.
func verifyOf(c api.Config, name, password string) bool {
	i := slices.IndexFunc(c.Users, func(u api.User) bool { return u.Name == name })
	return i >= 0 && c.Users[i].Hash == hashOf(c.Users[i].Salt, name, password)
}

// checkVerify checks Verify against what is written out, and Principal for a request with the same credentials.
func checkVerify(t *testing.T, c api.Config, name, password string, want bool) {
	t.Helper()
	if got := cred.Verify(c, name, password); got != want {
		t.Fatalf("Verify(%.200q, %.200q) = %t for %.1000q", name, password, got, fmt.Sprint(c.Users))
	}
	if strings.Contains(name, ":") {
		return
	}
	principal := ""
	if want {
		principal = name
	}
	if got := cred.Principal(c, request("authorization", basic(name+":"+password))); got != principal {
		t.Fatalf("Principal = %.200q, want %.200q for %.1000q", got, principal, fmt.Sprint(c.Users))
	}
}

// P21.3: users with and without passwords.
func TestVerify(t *testing.T) {
	c := with(
		api.User{Name: "abc", Salt: "user", Hash: strings.Repeat("0a", 32)},
		user("ann", "salt", "pw"),
		user("bob", "", ""),
		user("c d", "s:t", " p:w "),
		user("é\xff", "\t", "\x00\n\xff"),
		// The digest of "abc:user:pw" is written out.
		api.User{Name: "user", Salt: "abc", Hash: "df708c58948c179249b7b57a96e0a1f33d0344f72bd34e87c38b1ba567b9b863"},
	)
	if err := config.Check(c); err != nil {
		t.Fatal(err)
	}
	for _, x := range []struct{ name, password string }{
		{"ann", "pw"}, {"bob", ""}, {"c d", " p:w "}, {"é\xff", "\x00\n\xff"}, {"user", "pw"},
	} {
		checkVerify(t, c, x.name, x.password, true)
	}
	for _, x := range []struct{ name, password string }{
		{"ann", ""}, {"ann", "p"}, {"ann", "w"}, {"ann", "pww"}, {"ann", "PW"}, {"ann", "Pw"}, {"ann", "pw "}, {"ann", " pw"}, {"ann", "pw\x00"}, {"ann", "pw\n"}, {"ann", "wp"},
		{"ann", "salt"}, {"ann", "ann"}, {"ann", "ann:pw"}, {"ann", hashOf("salt", "ann", "pw")}, {"ann", "salt:ann:pw"}, {"ann", ":pw"},
		{"Ann", "pw"}, {"ANN", "pw"}, {"an", "pw"}, {"annn", "pw"}, {"ann ", "pw"}, {" ann", "pw"}, {"ann\x00", "pw"}, {"ann:", "pw"}, {"ann:pw", ""}, {"salt:ann", "pw"}, {"", "pw"}, {"*", "pw"}, {"pw", "ann"},
		{"bob", "pw"}, {"bob", "b"}, {"bob", "\x00"}, {"bob", ":"}, {"bob:", ""}, {"", ""}, {"*", ""}, {":", ""},
		{"c d", "p:w"}, {"c d", " p:w"}, {"c d", "p:w "}, {"c d", " p"}, {"c d: p", "w "}, {"c", " p:w "}, {"t:c d", " p:w "}, {"c  d", " p:w "},
		{"é\xff", "\x00\n"}, {"é\ufffd", "\x00\n\xff"}, {"e\u0301\xff", "\x00\n\xff"}, {"é\xff", "\x00\n\ufffd"}, {"\xff", "\x00\n\xff"},
		{"abc", "pw"}, {"abc", ""}, {"user", "abc"}, {"user", ""}, {"dan", "pw"}, {"h", ""}, {"index.html", ""},
		// Another user has the password.
		{"ann", " p:w "}, {"bob", "pw"}, {"user", " p:w "},
	} {
		checkVerify(t, c, x.name, x.password, false)
	}
	for _, name := range []string{"", "ann", "*", "user"} {
		for _, password := range []string{"", "pw"} {
			checkVerify(t, with(), name, password, false)
			checkVerify(t, api.Config{}, name, password, false)
		}
	}
}

// P21.3: each byte in each place of a password, of a name and of a hash.
func TestVerifyBytes(t *testing.T) {
	const name, password = "ann", "pass"
	u := user(name, "salt", password)
	c := with(u)
	for i := range len(password) {
		eachByte(func(b string) {
			changed := password[:i] + b + password[i+1:]
			checkVerify(t, c, name, changed, changed == password)
			checkVerify(t, c, name, password[:i]+b+password[i:], false)
		})
	}
	for i := range len(name) {
		eachByte(func(b string) {
			changed := name[:i] + b + name[i+1:]
			checkVerify(t, c, changed, password, changed == name)
		})
	}
	for i := range len(u.Hash) {
		eachByte(func(b string) {
			changed := u
			changed.Hash = u.Hash[:i] + b + u.Hash[i+1:]
			checkVerify(t, with(changed), name, password, changed.Hash == u.Hash)
		})
	}
}

// P21.3: salts and hashes, right and wrong.
func TestVerifyHash(t *testing.T) {
	const name, password = "ann", "pw"
	u := user(name, "salt", password)
	for _, salt := range []string{"", "s", "Salt", "salt ", " salt", "salt:", ":salt", "sal", "salt\x00", "salt:ann", "ann"} {
		changed := u
		changed.Salt = salt
		checkVerify(t, with(changed), name, password, false)
		checkVerify(t, with(user(name, salt, password)), name, password, true)
		checkVerify(t, with(user(name, salt, password)), name, password+" ", false)
	}
	for _, hash := range []string{
		"",
		strings.ToUpper(u.Hash),
		u.Hash[:63],
		u.Hash[1:],
		u.Hash[:32],
		u.Hash + "0",
		u.Hash + "\x00",
		u.Hash + "\n",
		" " + u.Hash,
		u.Hash + u.Hash,
		"0x" + u.Hash,
		strings.Repeat("0", 64),
		password,
		hashOf("", "", ""),
		hashOf("", name, password),
		hashOf("salt", "", password),
		hashOf("salt", name, ""),
		hashOf("salt", password, name),
		hashOf(name, "salt", password),
		hashOf("SALT", name, password),
		fmt.Sprintf("%x", sha256.Sum256([]byte("saltannpw"))),
		fmt.Sprintf("%x", sha256.Sum256([]byte("salt:pw"))),
		fmt.Sprintf("%x", sha256.Sum256([]byte("pw"))),
	} {
		changed := u
		changed.Hash = hash
		checkVerify(t, with(changed), name, password, false)
	}
	// Texts with the same digest as others, in other parts.
	checkVerify(t, with(user("b", "s:a", "c")), "b", "c", true)
	checkVerify(t, with(user("b", "s:a", "c")), "a", "b:c", false)
	checkVerify(t, with(user("b", "s:a", "c")), "a:b", "c", false)
	checkVerify(t, with(api.User{Name: "a", Salt: "s", Hash: hashOf("s:a", "b", "c")}), "a", "b:c", true)
	checkVerify(t, with(api.User{Name: "a:b", Salt: "s", Hash: hashOf("s:a", "b", "c")}), "a:b", "c", true)
}

// P21.3, P21.4: wrong configurations.
func TestWrongConfigurations(t *testing.T) {
	for _, name := range []string{"", "*", "\n", "\x00", "a\x7f", "a:b", ":", "::"} {
		c := with(user(name, "s", "p"))
		if config.Check(c) == nil {
			t.Fatalf("%q is right", name)
		}
		checkVerify(t, c, name, "p", true)
		checkVerify(t, c, name, "q", false)
		checkVerify(t, c, name+"a", "p", false)
		checkVerify(t, with(user(name, "\n", "p")), name, "p", true)
		c.Hosts, c.Index, c.Limits = nil, "/", api.Limits{Line: -1}
		checkVerify(t, c, name, "p", true)
	}
	// A name in credentials ends at its first colon.
	for _, x := range []struct {
		user, text, want string
	}{
		{"a:b", "a:b:p", ""}, {"a:b", "a:b", ""}, {"a:", "a::p", ""}, {":", "::p", ""}, {"a", "a:p", "a"}, {"", ":p", ""}, {"*", "*:p", "*"}, {"a\n", "a\n:p", "a\n"},
	} {
		if got := cred.Principal(with(user(x.user, "s", "p")), request("authorization", basic(x.text))); got != x.want {
			t.Errorf("Principal = %q for the user %q and %q, want %q", got, x.user, x.text, x.want)
		}
	}
	if got := cred.Principal(with(user("a", "s", "b:p")), request("authorization", basic("a:b:p"))); got != "a" {
		t.Errorf("Principal = %q", got)
	}
	// The first user with a name is the one with it.
	c := with(user("ann", "s", "1"), user("bob", "s", "2"), user("ann", "s", "3"), user("ann", "t", "1"), user("bob", "t", "2"))
	checkVerify(t, c, "ann", "1", true)
	checkVerify(t, c, "ann", "3", false)
	checkVerify(t, c, "ann", "2", false)
	checkVerify(t, c, "bob", "2", true)
	checkVerify(t, c, "bob", "1", false)
	c.Users[0].Hash = ""
	checkVerify(t, c, "ann", "1", false)
	checkVerify(t, c, "ann", "3", false)
	checkVerify(t, with(api.User{}, user("", "s", "p")), "", "p", false)
}

// P21.3, P21.4: all short lists of users, with all names and passwords, against the definition.
func TestVerifyAll(t *testing.T) {
	var users []api.User
	names, passwords := []string{"", "*", "a", "A", "a b", "b:"}, []string{"", "p", "P", ":"}
	for _, name := range []string{"", "a", "A", "b:"} {
		for _, password := range passwords[:2] {
			users = append(users, user(name, "s", password))
		}
	}
	users = append(users, api.User{Name: "a"}, user("a b", "", ":"))
	eachList(users, 3, func(l []api.User) {
		c := api.Config{Users: l}
		for _, name := range names {
			for _, password := range passwords {
				checkVerify(t, c, name, password, verifyOf(c, name, password))
			}
		}
	})
}

// request returns a request with the fields whose names and values follow each other.
func request(texts ...string) api.Request {
	r := api.Request{Method: "GET", Target: "/", Minor: 1}
	for pair := range slices.Chunk(texts, 2) {
		r.Fields = append(r.Fields, api.Field{Name: pair[0], Value: pair[1]})
	}
	return r
}

// lower returns a text with small letters, of A to Z only.
func lower(s string) string {
	text := []byte(s)
	for i, c := range text {
		if c >= 'A' && c <= 'Z' {
			text[i] = c + 32
		}
	}
	return string(text)
}

// principalOf returns the principal of a request by the definition.
func principalOf(c api.Config, r api.Request) string {
	var values []string
	for _, f := range r.Fields {
		if lower(f.Name) == "authorization" {
			values = append(values, f.Value)
		}
	}
	if len(values) != 1 {
		return ""
	}
	p := parsedOf(values[0])
	if !p.ok || !verifyOf(c, p.name, p.password) {
		return ""
	}
	return p.name
}

// checkPrincipal checks Principal against what is written out, and that the definition says the same.
func checkPrincipal(t *testing.T, c api.Config, r api.Request, want string) {
	t.Helper()
	if got := cred.Principal(c, r); got != want {
		t.Fatalf("Principal = %.200q, want %.200q for %.1000q", got, want, fmt.Sprint(r))
	}
	if got := principalOf(c, r); got != want {
		t.Fatalf("the definition: %.200q, want %.200q for %.1000q", got, want, fmt.Sprint(r))
	}
}

// two returns a configuration with two users.
func two() api.Config { return with(user("ann", "s", "pw"), user("bob", "t", "p:w")) }

// P21.4: requests with one authorization field, by the names and values of the fields.
func TestPrincipal(t *testing.T) {
	const name = "authorization"
	ann, bob := basic("ann:pw"), basic("bob:p:w")
	for _, x := range []struct {
		fields []string
		want   string
	}{
		{[]string{name, ann}, "ann"},
		{[]string{name, bob}, "bob"},
		{[]string{"Authorization", ann}, "ann"},
		{[]string{"AUTHORIZATION", ann}, "ann"},
		{[]string{"aUthoRizatioN", ann}, "ann"},
		{[]string{"host", "h", name, ann}, "ann"},
		{[]string{name, ann, "host", "h"}, "ann"},
		{[]string{name, ann, "proxy-authorization", bob}, "ann"},
		{[]string{"proxy-authorization", bob, name, ann, "x", "", "x", ann}, "ann"},
		{[]string{name, "bAsIc   " + encoded("ann:pw")}, "ann"},
		// No field.
		{nil, ""},
		{[]string{"host", "h"}, ""},
		{[]string{"proxy-authorization", ann}, ""},
		{[]string{"www-authenticate", ann}, ""},
		{[]string{"authorizatio", ann}, ""},
		{[]string{"authorizations", ann}, ""},
		{[]string{"authorization ", ann}, ""},
		{[]string{" authorization", ann}, ""},
		{[]string{"authorization:", ann}, ""},
		{[]string{"author\u0131zation", ann}, ""},
		{[]string{"AUTHOR\u0130ZATION", ann}, ""},
		{[]string{"auth_orization", ann}, ""},
		{[]string{"", ann}, ""},
		{[]string{ann, name}, ""},
		// Several fields.
		{[]string{name, ann, name, ann}, ""},
		{[]string{name, ann, name, bob}, ""},
		{[]string{name, ann, "Authorization", ann}, ""},
		{[]string{name, ann, "host", "h", "AUTHORIZATION", ""}, ""},
		{[]string{name, "", name, ann}, ""},
		{[]string{name, "Bearer x", name, ann}, ""},
		{[]string{name, ann, name, "wrong"}, ""},
		{[]string{name, ann, name, ann, name, ann}, ""},
		// Values that are no Basic credentials.
		{[]string{name, ""}, ""},
		{[]string{name, " " + ann}, ""},
		{[]string{name, ann + " "}, ""},
		{[]string{name, ann + "\t"}, ""},
		{[]string{name, ann + ", " + bob}, ""},
		{[]string{name, "Basic ann:pw"}, ""},
		{[]string{name, "ann:pw"}, ""},
		{[]string{name, "ann"}, ""},
		{[]string{name, encoded("ann:pw")}, ""},
		{[]string{name, "Bearer " + encoded("ann:pw")}, ""},
		{[]string{name, basic("ann")}, ""},
		{[]string{name, basic("ann pw")}, ""},
		{[]string{name, strings.ReplaceAll(ann, " ", "\t")}, ""},
		// Users without this password.
		{[]string{name, basic("ann:")}, ""},
		{[]string{name, basic("ann:PW")}, ""},
		{[]string{name, basic("ann:pw:")}, ""},
		{[]string{name, basic("ann::pw")}, ""},
		{[]string{name, basic("ann:p:w")}, ""},
		{[]string{name, basic("bob:pw")}, ""},
		{[]string{name, basic("bob:p")}, ""},
		{[]string{name, basic("bob:w")}, ""},
		{[]string{name, basic("ann:" + hashOf("s", "ann", "pw"))}, ""},
		// No users.
		{[]string{name, basic(":")}, ""},
		{[]string{name, basic(":pw")}, ""},
		{[]string{name, basic("*:pw")}, ""},
		{[]string{name, basic("*:")}, ""},
		{[]string{name, basic("ANN:pw")}, ""},
		{[]string{name, basic("ann :pw")}, ""},
		{[]string{name, basic(" ann:pw")}, ""},
		{[]string{name, basic("carl:pw")}, ""},
		{[]string{name, basic("annpw:")}, ""},
		{[]string{name, basic("pw:ann")}, ""},
	} {
		checkPrincipal(t, two(), request(x.fields...), x.want)
		checkPrincipal(t, with(), request(x.fields...), "")
		checkPrincipal(t, api.Config{}, request(x.fields...), "")
	}
}

// P21.4: nothing but the fields matters in a request, and nothing but the users in a configuration.
func TestPrincipalOfAll(t *testing.T) {
	for _, method := range []string{"", "GET", "HEAD", "OPTIONS", "POST", "get", "x y"} {
		for _, target := range []string{"", "/", "/../a", "http://ann:pw@h/", "*"} {
			for _, minor := range []int{0, 1, -1, 9} {
				r := api.Request{Method: method, Target: target, Minor: minor, Body: []byte("authorization: " + basic("bob:p:w"))}
				checkPrincipal(t, two(), r, "")
				r.Fields = []api.Field{{Name: "authorization", Value: basic("ann:pw")}}
				checkPrincipal(t, two(), r, "ann")
				c := two()
				c.Hosts, c.Index, c.Limits = nil, "..", api.Limits{}
				checkPrincipal(t, c, r, "ann")
				c.Hosts = []api.Host{{Rules: []api.Rule{{Hide: true}, {Grants: []api.Grant{{User: "x"}}}}}}
				checkPrincipal(t, c, r, "ann")
			}
		}
	}
}

// P21.4: all short lists of fields.
func TestPrincipalFields(t *testing.T) {
	ann := basic("ann:pw")
	pieces := []api.Field{
		{Name: "authorization", Value: ann},
		{Name: "Authorization", Value: basic("bob:p:w")},
		{Name: "AUTHORIZATION", Value: basic("ann:p:w")},
		{Name: "authorization", Value: ""},
		{Name: "authorization", Value: "Bearer x"},
		{Name: "proxy-authorization", Value: ann},
		{Name: "host", Value: "h"},
		{Name: "", Value: ""},
	}
	counts := map[string]int{}
	c := two()
	eachList(pieces, 4, func(l []api.Field) {
		r := api.Request{Fields: l}
		want := principalOf(c, r)
		counts[want]++
		checkPrincipal(t, c, r, want)
	})
	if counts["ann"] < 50 || counts["bob"] < 50 || counts[""] < 1000 {
		t.Error(counts)
	}
}

// P21.4: each byte in each place of the name and the value of the field.
func TestPrincipalBytes(t *testing.T) {
	c := two()
	name, value := "authorization", basic("ann:pw")
	for i := range len(name) {
		eachByte(func(b string) {
			r := request(name[:i]+b+name[i+1:], value)
			checkPrincipal(t, c, r, principalOf(c, r))
			r = request(name[:i]+b+name[i:], value)
			checkPrincipal(t, c, r, "")
		})
	}
	for i := range len(value) {
		eachByte(func(b string) {
			r := request(name, value[:i]+b+value[i+1:])
			checkPrincipal(t, c, r, principalOf(c, r))
			r = request(name, value[:i]+b+value[i:])
			checkPrincipal(t, c, r, principalOf(c, r))
		})
	}
}

// P21.5: a request with the credentials of a user of a right configuration has this user as its principal, also after its field was a field line.
func TestUsers(t *testing.T) {
	random := rand.New(rand.NewSource(215))
	const letters = "ab*AZ09 \t\"\\,;=%/\x80\xff"
	some := func(n int) string {
		b := make([]byte, n)
		for i := range b {
			b[i] = letters[random.Intn(len(letters))]
		}
		return string(b)
	}
	for range 300 {
		var c api.Config
		passwords := map[string]string{}
		for range 1 + random.Intn(20) {
			name, password := some(1+random.Intn(6)), randomString(random, random.Intn(100))
			if _, known := passwords[name]; !known && name != "*" {
				passwords[name] = password
				c.Users = append(c.Users, user(name, some(random.Intn(70)), password))
			}
		}
		c.Hosts, c.Index, c.Limits = with().Hosts, with().Index, with().Limits
		if err := config.Check(c); err != nil {
			t.Fatal(err)
		}
		for _, u := range c.Users {
			value := cred.Text(u.Name, passwords[u.Name])
			f, err := field.Parse("Authorization:\t" + value + " ")
			if err != nil {
				t.Fatal(err)
			}
			checkPrincipal(t, c, api.Request{Fields: []api.Field{f}}, u.Name)
			checkVerify(t, c, u.Name, passwords[u.Name], true)
			checkVerify(t, c, u.Name, passwords[u.Name]+"x", false)
		}
	}
}

// P21.3, P21.4: many users and fields, and long texts.
func TestMany(t *testing.T) {
	const n = 1 << 12
	var c api.Config
	for i := range n {
		text := strconv.Itoa(i)
		c.Users = append(c.Users, user(text, "salt", "password "+text))
	}
	for _, i := range []int{0, 1, 77, n - 2, n - 1} {
		text := strconv.Itoa(i)
		checkVerify(t, c, text, "password "+text, true)
		checkVerify(t, c, text, "password "+text+"0", false)
		checkVerify(t, c, "0"+text, "password "+text, false)
	}
	checkVerify(t, c, strconv.Itoa(n), "password "+strconv.Itoa(n), false)

	r := api.Request{}
	for i := range n {
		r.Fields = append(r.Fields, api.Field{Name: "x", Value: strconv.Itoa(i)})
	}
	checkPrincipal(t, c, r, "")
	r.Fields[n-1] = api.Field{Name: "Authorization", Value: basic("77:password 77")}
	checkPrincipal(t, c, r, "77")
	r.Fields[0] = r.Fields[n-1]
	checkPrincipal(t, c, r, "")

	long := strings.Repeat("a", 1<<20)
	c = with(user(long, long, long), user(long+"a", "", ""))
	checkVerify(t, c, long, long, true)
	checkVerify(t, c, long+"a", "", true)
	checkVerify(t, c, long, long+"a", false)
	checkVerify(t, c, long, long[1:], false)
	checkVerify(t, c, long[1:], long, false)
	checkVerify(t, c, long+"a", "a", false)
	checkVerify(t, with(api.User{Name: "a", Hash: long}), "a", "", false)
}

// Arguments stay as they are, also behind the ends of slices.
func TestArgumentsStay(t *testing.T) {
	made := func() (api.Config, api.Request) {
		c := two()
		c.Users = append(c.Users, user("behind", "s", "p"))[:2]
		r := request("Host", "H", "AUTHORIZATION", basic("ann:pw"), "authorization", basic("behind:p"))
		r.Fields, r.Body = r.Fields[:2], []byte("body")
		return c, r
	}
	c, r := made()
	checkPrincipal(t, c, r, "ann")
	checkVerify(t, c, "bob", "p:w", true)
	checkVerify(t, c, "behind", "p", false)
	before, sent := made()
	if !reflect.DeepEqual(c, before) || !reflect.DeepEqual(r, sent) {
		t.Errorf("%q, %q", fmt.Sprint(c), fmt.Sprint(r))
	}
	if c.Users[:3][2] != user("behind", "s", "p") || r.Fields[:3][2] != sent.Fields[:3][2] {
		t.Errorf("%q, %q", c.Users[:3], r.Fields[:3])
	}
	// Results stay when the arguments change afterwards.
	name := cred.Principal(c, r)
	r.Fields[1].Value, c.Users[0] = basic("bob:p:w"), api.User{}
	if name != "ann" {
		t.Errorf("%q", name)
	}
	checkPrincipal(t, c, r, "bob")
}

// The functions may be called concurrently.
func TestConcurrent(t *testing.T) {
	c, r := two(), request("host", "h", "authorization", basic("ann:pw"))
	var group sync.WaitGroup
	for i := range 8 {
		group.Go(func() {
			own := strconv.Itoa(i)
			for range 500 {
				if got := parse(cred.Text(own, "p")); got != (parsed{own, "p", true}) {
					t.Error(got)
				}
				if got := cred.Principal(c, r); got != "ann" || !cred.Verify(c, "bob", "p:w") || cred.Verify(c, "bob", own) {
					t.Error(got)
				}
			}
		})
	}
	group.Wait()
}
