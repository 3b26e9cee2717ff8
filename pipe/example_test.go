package pipe_test

import (
	"fmt"

	"bailiwick/api"
	"bailiwick/pipe"
)

// Example is the document's, and what README.md shows.
func Example() {
	up, e := pipe.New(0)
	low, f := pipe.New(0)
	fmt.Println(e, f)
	up, e = pipe.Say(up, []byte("a"))
	sent := pipe.Goes(up)
	fmt.Println(len(sent), sent[0].Seq, sent[0].Ack, string(sent[0].Body), e)
	low, word, told := pipe.Come(low, sent[0])
	fmt.Println(string(word), told)
	low, word, told = pipe.Come(low, sent[0])
	fmt.Println(len(word), told)
	sent = pipe.Goes(low)
	fmt.Println(len(sent), sent[0].Seq, sent[0].Ack)
	up, word, told = pipe.Come(up, sent[0])
	fmt.Println(len(up.Out), len(word), told)
	fmt.Println(pipe.Right(up), pipe.Fine(sent[0]), pipe.Fine(api.Packet{Seq: -1}))
	// Output:
	// 0 0
	// 1 1 0 a 0
	// a true
	// 0 false
	// 1 0 1
	// 0 0 false
	// true true false
}
