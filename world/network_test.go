package world_test

import (
	"fmt"
	"strings"
	"testing"
)

const adder = `
		| program P { version V { int ADD(int, int) = 1; void RESET(void) = 2; } = 3; version W { int ADD(int, int) = 1; } = 4; } = 9; => ok
		compile => types 8 names 0 programs 1
`

// TestArgs: arguments stand one behind the other, each of its type, until a row or a call has taken them; what is refused is none.
func TestArgs(t *testing.T) {
	wantTold(t, adder+`
		arg 1 1 => ok
		arg 1 x => error 70 at 0
		arg 1 4294967295 => error 72 at 0
		arg 8 1 => none
		arg nobody 1 => none
		arg 3 -1 => ok
		arg 0 void => ok
		arg 7 TRUE => ok
		client ann 7 1 4 2 8 4 => ok
		server 5 1 4 400 100 => ok
		call bob 5 9 3 1 => none
		call ann 65536 9 3 1 => error 1
		call ann 1099511627776 9 3 1 => error 1
		ask ann 5 port 7 2 17 2000 => call 1
		call ann 5 9 3 1 => call 2
		call ann 5 9 3 1 => call 3
		air => flying 3 131772>65541:104 131772>65541:104 131772>65541:88
	`)
}

// TestTable: a table, its rows, and the machine that it makes.
func TestTable(t *testing.T) {
	wantTold(t, `
		table 9 3 2 0 => none
		row 0 1 1 1 3 => none
		server 111 2 4 800 100 => ok
		offer 111 => none
	`+adder+`
		row 0 1 1 1 x => none
		table 9 3 2 1 => ok
		arg 1 1 => ok
		arg 1 2 => ok
		row 0 1 1 1 x => error 70 at 0
		row 0 1 1 8 3 => none
		row 0 1 1 nobody 3 => none
		row 1 1 0 1 3 => ok
		row 0 2 1 0 void => ok
		offer 112 => none
		state 111 => none
		offer 111 => ok
		state 111 => state 1
		state 112 => none
		client ann 7 1 4 2 8 4 => ok
		arg 1 1 => ok
		arg 1 2 => ok
		call ann 111 9 3 1 => call 1
		call ann 111 9 3 2 => call 2
		arg 1 1 => ok
		arg 1 1 => ok
		call ann 111 9 3 1 => call 3
		deliver 0 => server 111
		deliver 0 => server 111
		deliver 0 => server 111
		work 111 => done
		state 111 => state 0
		work 111 => done
		state 111 => state 1
		work 111 => done
		state 111 => state 1
		log 111 => log 3 131772:1:1:0:00000003 131772:2:2:0:- 131772:3:1:0:00000000
		deliver 1 => client ann 2
		deliver 0 => client ann 1
		deliver 0 => client ann 3
		outcomes ann => outcomes 3 2:success:- 1:success:00000003 3:success:00000000
	`)
}

// TestOffers: what the layers 19 and 20 refuse; a port's state is that of what was offered there last.
func TestOffers(t *testing.T) {
	wantTold(t, adder+`
		server 1 1 1 64 64 => ok
		table 8 3 2 0 => ok
		offer 1 => error 191
		table 9 5 2 0 => ok
		offer 1 => error 191
		table 9 3 0 0 => ok
		offer 1 => error 190
		table 9 3 65 0 => ok
		offer 1 => error 190
		table 9 3 64 64 => ok
		offer 1 => error 190
		table 9 3 64 63 => ok
		row 0 3 0 1 0 => ok
		offer 1 => error 190
		table 9 3 64 63 => ok
		state 1 => none
		offer 1 => ok
		state 1 => state 63
		offer 1 => error 181
		table 9 3 64 5 => ok
		offer 1 => error 181
		state 1 => state 63
		table 9 4 64 5 => ok
		offer 1 => ok
		state 1 => state 5
		table 9 3 64 6 => ok
		offer 1 => error 181
		state 1 => state 5
		server 2 1 1 64 64 => ok
		state 2 => none
		offer 2 => ok
		state 2 => state 6
		state 1 => state 5
		server 65535 1 1 64 64 => ok
		offer 65535 => ok
		state 65535 => state 6
		state 65536 => none
		offer 65536 => none
		mapper 65535 => ok
		state 65535 => state 6
	`)
}

// TestManyOffers: there are 16 services at the most.
func TestManyOffers(t *testing.T) {
	var pairs strings.Builder
	pairs.WriteString("server 1 1 1 64 64 => ok\n| program P { => ok\n")
	for i := range 17 {
		fmt.Fprintf(&pairs, "| version V%d { void A(void) = 1; } = %d; => ok\n", i, i)
	}
	pairs.WriteString("| } = 1; => ok\ncompile => types 8 names 0 programs 1\nmapper 1 => ok\n")
	for i := range 15 {
		fmt.Fprintf(&pairs, "table 1 %d 1 0 => ok\noffer 1 => ok\n", i)
	}
	pairs.WriteString("table 1 15 2 1 => ok\noffer 1 => error 182\nstate 1 => state 0\nmapper 1 => error 181\n")
	wantTold(t, pairs.String())
}

// TestRows: a table's rows stand until there is another table, and a machine that was offered is none of it.
func TestRows(t *testing.T) {
	wantTold(t, adder+`
		server 1 1 4 400 100 => ok
		server 2 1 4 400 100 => ok
		server 3 1 4 400 100 => ok
		client ann 7 1 8 2 8 4 => ok
		table 9 3 2 0 => ok
		row 0 2 1 0 void => ok
		offer 1 => ok
		row 1 2 0 0 void => ok
		offer 2 => ok
		row 1 2 1 0 void => ok
		offer 3 => error 190
		table 9 3 2 0 => ok
		offer 3 => ok
		call ann 1 9 3 2 => call 1
		call ann 1 9 3 2 => call 2
		call ann 2 9 3 2 => call 3
		call ann 2 9 3 2 => call 4
		call ann 3 9 3 2 => call 5
		deliver 0 => server 1
		deliver 0 => server 1
		deliver 0 => server 2
		deliver 0 => server 2
		deliver 0 => server 3
		work 1 => done
		state 1 => state 1
		state 2 => state 0
		work 1 => done
		state 1 => state 1
		work 2 => done
		state 2 => state 1
		work 2 => done
		state 2 => state 0
		work 3 => done
		state 3 => state 0
	`)
}

// TestServers: ports and caches.
func TestServers(t *testing.T) {
	wantTold(t, `
		server 0 1 1 64 64 => ok
		server 0 1 1 64 64 => there
		server 0 0 0 0 0 => there
		server 65535 64 64 1048576 1100 => ok
		server 65536 1 1 64 64 => error 1
		server 65536 0 0 0 0 => error 1
		server 1099511627776 1 1 64 64 => error 1
		server 1 0 1 64 64 => error 200
		server 1 65 1 64 64 => error 200
		server 1 1 0 64 64 => error 200
		server 1 1 65 64 64 => error 200
		server 1 1 1 63 64 => error 200
		server 1 1 1 1048577 64 => error 200
		server 1 1 1 64 63 => error 200
		server 1 1 1 2000 1101 => error 200
		server 1 1 1 64 64 => ok
		server 1 1 1 64 64 => there
		mapper 0 => ok
		mapper 0 => error 181
		mapper 65535 => ok
		mapper 65536 => none
		mapper 2 => none
		work 0 => idle
		work 2 => none
		work 65536 => none
		held 0 => held 0 0 0 queue 0
		held 2 => none
		held 65536 => none
		log 0 => log 0
		log 2 => none
		log 1099511627776 => none
		state 0 => none
		state 2 => none
	`)
}

// TestClients: names, numbers, addresses.
func TestClients(t *testing.T) {
	wantTold(t, `
		client ann 0 1 1 1 1 1 => error 170
		client ann 1 0 1 1 1 1 => error 170
		client ann 1 4294967296 1 1 1 1 => error 170
		client ann 1 1 0 1 1 1 => error 170
		client ann 1 1 65 1 1 1 => error 170
		client ann 1 1 1 0 1 1 => error 170
		client ann 1 1 1 2 1 1 => error 170
		client ann 1 1 1 1 1048577 1 => error 170
		client ann 1 1 1 1 1 0 => error 170
		client ann 1 1 1 1 1 33 => error 170
		outcomes ann => none
		client ann 1099511627776 4294967295 64 1048576 1048576 32 => ok
		client ann 1 1 1 1 1 1 => there
		client ann 0 0 0 0 0 0 => there
		client Ann 1 1 1 1 1 1 => ok
		client ann_ 1 1 1 1 1 1 => ok
		outcomes ann => outcomes 0
		outcomes ANN => none
		call ann 0 1 1 1 => call 4294967295
		call Ann 65535 0 0 0 => call 1
		call ann_ 1 4294967295 4294967295 4294967295 => call 1
		call ann 0 1 1 1 => error 172
		call Ann 0 1 1 1 => error 171
		air => flying 3 131772>65536:88 197308>131071:88 262844>65537:88
	`)
}

// TestManyClients: there are 16 at the most, each at its own address, and one that is refused has none.
func TestManyClients(t *testing.T) {
	var pairs, flying strings.Builder
	for i := range 16 {
		name := strings.Repeat("c", i+1)
		fmt.Fprintf(&pairs, "client %s 0 1 1 1 1 1 => error 170\nclient %s 5 1 1 1 1 1 => ok\ncall %s 7 1 1 0 => call 1\n", name, name, name)
		fmt.Fprintf(&flying, " %d>65543:%d", 131072+65536*i+700, 84+(i+4)/4*4)
	}
	pairs.WriteString(`
		client ann 5 1 1 1 1 1 => many
		client ann 0 0 0 0 0 0 => many
		client c 5 1 1 1 1 1 => there
		outcomes ann => none
		call ann 7 1 1 0 => none
		ask ann 7 dump 0 0 0 0 => none
		stray 1 ann 00 => none
		stray 1 cc 00 => ok
		drop 16 => ok
	`)
	wantTold(t, pairs.String()+"air => flying 16"+flying.String()+"\ntick => time 1\nair => flying 16"+flying.String()+"\noutcomes cc => outcomes 1 1:timeout\n")
}

// TestCall: what is told of a call in which order, and which arguments are gone with it.
func TestCall(t *testing.T) {
	long := "| typedef string s<>; typedef int a[5];\ncompile\nclient ann 7 1 2 2 8 4\n"
	told := "ok\ntypes 10 names 2 programs 0\nok\n"
	most := `"` + strings.Repeat("x", 492) + `"`
	wantRun(t, long+
		"arg s "+most+"\narg s "+most+"\narg 1 1\narg 1 1\ncall ann 5 1 1 1\n"+
		"arg s "+most+"\narg s "+most+"\narg 1 1\narg 3 1\ncall ann 65536 1 1 1\ncall bob 5 1 1 1\ncall ann 5 1 1 1\ncall ann 5 1 1 1\nair\n",
		told+"ok\nok\nok\nok\ncall 1\nok\nok\nok\nok\nerror 1\nnone\nerror 23\ncall 2\nflying 2 131772>65541:1088 131772>65541:88\n")
	wantTold(t, `
		compile => types 8 names 0 programs 0
		client ann 7 1 3 2 8 4 => ok
		arg 1 5 => ok
		call ann 5 4294967296 1 1 => error 1
		call ann 5 1 1 1 => call 1
		arg 1 5 => ok
		call ann 5 1 4294967296 1 => error 1
		call ann 5 1 1 1 => call 2
		arg 1 5 => ok
		call ann 5 1 1 4294967296 => error 1
		arg 1 5 => ok
		call ann 5 4294967295 4294967295 4294967295 => call 3
		arg 1 5 => ok
		call ann 5 1 1 1 => error 171
		tick => time 1
		tick => time 2
		drop 0 => ok
		drop 0 => ok
		drop 0 => ok
		air => flying 3 131772>65541:88 131772>65541:88 131772>65541:92
	`)
}

// TestAsk: what the portmapper is asked, and what is told ahead of that.
func TestAsk(t *testing.T) {
	wantTold(t, `
		server 111 2 8 6400 100 => ok
		mapper 111 => ok
		client ann 7 1 5 2 8 4 => ok
		ask bob 111 set 1 1 1 1 => none
		ask bob 65536 set 1 1 1 1 => none
		ask ann 65536 set 1 1 1 1 => error 1
		ask ann 65536 set 4294967296 1 1 1 => error 1
		ask ann 111 set 4294967296 1 1 1 => error 1
		ask ann 111 unset 1 4294967296 1 1 => error 1
		ask ann 111 port 1 1 4294967296 1 => error 1
		ask ann 111 set 1 1 1 4294967296 => error 1
		ask ann 111 set 7 2 17 2000 => call 1
		ask ann 111 port 7 2 17 4294967295 => call 2
		ask ann 111 dump 4294967296 4294967296 4294967296 1099511627776 => call 3
		ask ann 111 unset 7 2 4294967295 4294967295 => call 4
		ask ann 111 port 7 2 17 0 => call 5
		ask ann 111 port 7 2 17 0 => error 171
		ask ann 111 port 7 2 17 4294967296 => error 1
		ask ann 65536 port 7 2 17 0 => error 1
		air => flying 5 131772>65647:104 131772>65647:104 131772>65647:88 131772>65647:104 131772>65647:104
		deliver 0 => server 111
		deliver 0 => server 111
		deliver 0 => server 111
		deliver 0 => server 111
		deliver 0 => server 111
		held 111 => held 1 5 500 queue 5
		work 111 => done
		work 111 => done
		work 111 => done
		work 111 => done
		work 111 => done
		work 111 => idle
		deliver 4 => client ann 5
		deliver 0 => client ann 1
		deliver 0 => client ann 2
		deliver 0 => client ann 3
		deliver 0 => client ann 4
		outcomes ann => outcomes 5 5:success:00000000 1:success:00000001 2:success:000007d0 3:success:00000001000000070000000200000011000007d000000000 4:success:00000001
		log 111 => log 5 131772:1:1:0:00000001 131772:2:3:0:000007d0 131772:3:4:0:00000001000000070000000200000011000007d000000000 131772:4:2:0:00000001 131772:5:3:0:00000000
		held 111 => held 1 5 160 queue 0
	`)
}

// TestMappers: each has a map of its own.
func TestMappers(t *testing.T) {
	wantTold(t, `
		server 1 2 8 6400 100 => ok
		server 2 2 8 6400 100 => ok
		mapper 1 => ok
		mapper 2 => ok
		client ann 7 1 5 2 8 4 => ok
		ask ann 1 set 7 2 17 2000 => call 1
		deliver 0 => server 1
		work 1 => done
		deliver 0 => client ann 1
		ask ann 2 port 7 2 17 0 => call 2
		deliver 0 => server 2
		work 2 => done
		deliver 0 => client ann 2
		ask ann 1 port 7 2 17 0 => call 3
		deliver 0 => server 1
		work 1 => done
		deliver 0 => client ann 3
		outcomes ann => outcomes 3 1:success:00000001 2:success:00000000 3:success:000007d0
	`)
}

// TestTick: clients tick and send in the order in which they were made, each by its own time.
func TestTick(t *testing.T) {
	wantTold(t, `
		tick => time 1
		client bob 7 1 5 1 2 3 => ok
		client ann 7 1 5 2 2 2 => ok
		call ann 1 1 1 0 => call 1
		call bob 2 1 1 0 => call 1
		call bob 3 1 1 0 => call 2
		air => flying 3 197308>65537:88 131772>65538:88 131772>65539:88
		drop 0 => ok
		drop 0 => ok
		drop 0 => ok
		tick => time 2
		air => flying 2 131772>65538:88 131772>65539:88
		drop 0 => ok
		drop 0 => ok
		tick => time 3
		air => flying 1 197308>65537:88
		tick => time 4
		air => flying 3 197308>65537:88 131772>65538:88 131772>65539:88
		tick => time 5
		outcomes bob => outcomes 0
		outcomes ann => outcomes 1 1:timeout
		outcomes ann => outcomes 0
		call bob 4 1 1 0 => call 3
		tick => time 6
		outcomes bob => outcomes 2 1:timeout 2:timeout
		outcomes bob => outcomes 0
		air => flying 5 197308>65537:88 131772>65538:88 131772>65539:88 131772>65540:88 131772>65540:88
	`)
}

// TestOrderOfTick: of those that send at one time, the one that was made first stands ahead, whatever it is called.
func TestOrderOfTick(t *testing.T) {
	wantTold(t, `
		client z 7 1 5 1 1 2 => ok
		client a 7 1 5 1 1 2 => ok
		client m 7 1 5 1 1 2 => ok
		call a 1 1 1 0 => call 1
		call m 1 1 1 0 => call 1
		call z 1 1 1 0 => call 1
		drop 0 => ok
		drop 0 => ok
		drop 0 => ok
		tick => time 1
		air => flying 3 131772>65537:88 197308>65537:88 262844>65537:88
	`)
}

// TestDeliver: to servers, clients and nobody; what is answered is sent.
func TestDeliver(t *testing.T) {
	wantTold(t, adder+`
		deliver 0 => error 130
		drop 0 => error 130
		double 0 => error 130
		server 1 1 4 400 100 => ok
		table 9 3 2 0 => ok
		offer 1 => ok
		client ann 7 1 64 2 8 4 => ok
		client bob 7 1 64 2 8 4 => ok
		call ann 1 9 3 0 => call 1
		call ann 1 9 3 9 => call 2
		call ann 1 9 5 1 => call 3
		call ann 1 10 3 1 => call 4
		call ann 1 9 3 1 => call 5
		call ann 2 9 3 0 => call 6
		double 4 => ok
		deliver 6 => server 1
		deliver 7 => error 130
		deliver 5 => nobody
		deliver 0 => server 1
		deliver 0 => server 1
		deliver 0 => server 1
		deliver 0 => server 1
		deliver 0 => server 1
		held 1 => held 1 1 100 queue 1
		air => flying 4 65537>131772:24 65537>131772:24 65537>131772:32 65537>131772:24
		work 1 => done
		log 1 => log 0
		deliver 3 => client ann 4
		deliver 2 => client ann 3
		deliver 0 => client ann 1
		deliver 0 => client ann 2
		double 0 => ok
		deliver 0 => client ann 5
		deliver 0 => client ann 0
		air => flying 0
		outcomes ann => outcomes 5 4:accept:1 3:accept:2 1:success:- 2:accept:3 5:accept:4
		outcomes bob => outcomes 0
	`)
}

// TestRefusedCalls: where there is no room, and where an answer is longer than what is reserved.
func TestRefusedCalls(t *testing.T) {
	wantTold(t, `
		server 111 1 8 6400 64 => ok
		mapper 111 => ok
		client ann 7 1 5 2 8 4 => ok
		client bob 7 1 5 2 8 4 => ok
		ask ann 111 set 7 2 17 2000 => call 1
		ask ann 111 set 7 2 6 2000 => call 2
		ask ann 111 dump 0 0 0 0 => call 3
		ask bob 111 dump 0 0 0 0 => call 1
		deliver 0 => server 111
		deliver 0 => server 111
		deliver 0 => server 111
		deliver 0 => server 111
		work 111 => done
		work 111 => done
		work 111 => done
		work 111 => idle
		deliver 0 => client bob 1
		deliver 0 => client ann 1
		deliver 0 => client ann 2
		deliver 0 => client ann 3
		outcomes ann => outcomes 3 1:success:00000001 2:success:00000001 3:refused
		outcomes bob => outcomes 1 1:refused
		held 111 => held 1 3 80 queue 0
		log 111 => log 3 131772:1:1:0:00000001 131772:2:1:0:00000001 131772:3:4:0:00000001000000070000000200000011000007d000000001000000070000000200000006000007d000000000
	`)
}

// TestStray: from whom, to whom, with which bytes.
func TestStray(t *testing.T) {
	wantTold(t, `
		stray 0 ann 00 => none
		client ann 7 1 5 2 8 4 => ok
		client bob 7 1 5 2 8 4 => ok
		stray 0 ann 00 => ok
		stray 9999 bob 0001 => ok
		stray 10000 0 - => ok
		stray 1099511627776 65535 ffff => ok
		stray 9998 65536 00 => ok
		stray 1 1099511627776 00 => ok
		stray 1 carl 00 => none
		air => flying 6 16000000>131772:1 16009999>197308:2 16009999>65536:0 16009999>131071:2 16009998>131071:1 16000001>131071:1
		server 65535 1 1 64 64 => ok
		deliver 0 => client ann 0
		deliver 0 => client bob 0
		deliver 0 => nobody
		deliver 0 => server 65535
		deliver 0 => server 65535
		air => flying 1 16000001>131071:1
	`)
	wantRun(t, "stray 1 1 "+strings.Repeat("00", 1500)+"\nstray 1 1 "+strings.Repeat("00", 1501)+"\nair\n", "ok\nerror 131\nflying 1 16000001>65537:1500\n")
}

// TestStrangerIsAnswered: a call of another version from a stranger has a reply, which comes to nobody; a reply from a stranger is none.
func TestStrangerIsAnswered(t *testing.T) {
	wantTold(t, `
		server 5 1 1 64 64 => ok
		client ann 7 1 5 2 8 4 => ok
		call ann 5 1 1 1 => call 1
		stray 3 5 000000010000000000000003 => ok
		stray 3 ann 000000010000000100000000000000000000000000000000 => ok
		deliver 1 => server 5
		air => flying 3 131772>65541:88 16000003>131772:24 65541>16000003:24
		deliver 2 => nobody
		deliver 1 => client ann 0
		deliver 0 => server 5
		deliver 0 => client ann 1
		outcomes ann => outcomes 1 1:accept:1
	`)
}

// TestFullAir: what is sent when as many are under way as may be is lost, and the line tells what it would have told.
func TestFullAir(t *testing.T) {
	var pairs strings.Builder
	tell := func(format string, parts ...any) { fmt.Fprintf(&pairs, format+"\n", parts...) }
	tell("server 1 1 2 400 100 => ok\nmapper 1 => ok\nclient one 5 1 64 1048576 1048576 1 => ok")
	tell("ask one 1 dump 0 0 0 0 => call 1\nask one 1 dump 0 0 0 0 => call 2\ndeliver 0 => server 1\ndeliver 0 => server 1")
	for j := range 15 {
		tell("client c%d 5 1 64 1 1 32 => ok", j)
	}
	from := func(j int) string { return fmt.Sprintf(" %d>65537:88", 197308+65536*j) }
	var flying, again []string
	for i := range 8 {
		for j := range 15 {
			tell("call c%d 1 1 1 1 => call %d", j, i+1)
			flying = append(flying, from(j))
		}
	}
	for i := range 8 * 15 {
		again = append(again, from(i/8))
	}
	for i := range 8 {
		tell("tick => time %d", i+1)
		flying = append(flying, again...)
	}
	full := "flying 1000" + strings.Join(flying[:1000], "")
	tell("air => %s", full)
	tell("double 0 => error 132\nstray 1 one 00 => error 132\nwork 1 => done\ncall c0 1 1 1 1 => call 9\nask one 1 dump 0 0 0 0 => call 3")
	tell("air => %s", full)
	tell("drop 999 => ok\nwork 1 => done\nair => flying 1000%s 65537>131772:28", strings.Join(flying[:999], ""))
	tell("deliver 0 => server 1\nair => flying 1000%s 65537>131772:28 65537>197308:24", strings.Join(flying[1:999], ""))
	tell("log 1 => log 2 131772:1:4:0:00000000 131772:2:4:0:00000000")
	wantTold(t, pairs.String())
}
