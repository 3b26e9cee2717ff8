package inst_test

import (
	"fmt"

	"bailiwick/api"
	"bailiwick/inst"
	"bailiwick/job"
)

// names are the names of the jobs' states, as they stand.
func names(i api.Inst) []string {
	var l []string
	for _, j := range i.Jobs {
		l = append(l, job.Name(j.State))
	}
	return l
}

// Example is the document's.
func Example() {
	g := []api.Thing{
		{Kind: api.Cluster, Up: -1},
		{Kind: api.Node, Up: 0},
		{Kind: api.Core, Up: 1},
		{Kind: api.Core, Up: 1},
	}
	i, e := inst.New(g, api.Fcfs, 0)
	fmt.Println(inst.Right(i), e)
	s := api.Spec{Nodes: 1, Cores: 2, Long: 5}
	i, id, e := inst.Submit(i, s, nil)
	fmt.Println(names(i), id, e)
	i, id, e = inst.Submit(i, s, nil)
	fmt.Println(names(i), id, e)
	i, e = inst.Tick(i, 5)
	fmt.Println(names(i), i.Table, e)
	// Output:
	// true 0
	// [runs] 1 0
	// [runs waits] 2 0
	// [ended runs] [{2 [2 3] 5 10}] 0
}

// Example_more is what README.md shows.
func Example_more() {
	g := []api.Thing{
		{Kind: api.Cluster, Up: -1},
		{Kind: api.Node, Up: 0, Tag: "fast"},
		{Kind: api.Core, Up: 1},
		{Kind: api.Core, Up: 1},
		{Kind: api.Node, Up: 0},
		{Kind: api.Core, Up: 4},
	}
	i, e := inst.New(g, api.Easy, 0)
	s := api.Spec{Nodes: 1, Cores: 2, Long: 5}
	i, id, e := inst.Submit(i, s, nil)
	fmt.Println(id, e, i.Table)
	i, id, e = inst.Submit(i, s, nil)
	fmt.Println(id, e, names(i))
	i, id, e = inst.Submit(i, s, []int{9})
	fmt.Println(id, e, names(i))
	i, id, e = inst.Submit(i, s, []int{1})
	fmt.Println(id, e, names(i))
	fmt.Println(inst.Free(i))
	i, e = inst.Do(i, 1, api.DoEnd)
	fmt.Println(e, names(i), i.Table)
	i, e = inst.Mark(i, 1, api.Drain)
	fmt.Println(e, names(i), inst.Free(i))
	i, e = inst.Tick(i, 5)
	fmt.Println(e, names(i))
	i, e = inst.Tick(i, 4)
	fmt.Println(e, i.Now)
	i, e = inst.Mark(i, 1, api.Fine)
	fmt.Println(e, names(i), i.Table)
	was := inst.Copy(i)
	i, e = inst.Lend(i, []int{0, 4, 5}, 90)
	fmt.Println(e, names(i), inst.Free(i))
	fmt.Println(names(was), inst.Free(was))
	// Output:
	// 1 0 [{1 [2 3] 0 5}]
	// 2 0 [runs waits]
	// 0 6 [runs waits]
	// 3 0 [runs waits waits]
	// [0 1 4 5]
	// 0 [done runs waits] [{2 [2 3] 0 5}]
	// 0 [done runs waits] [0 4 5]
	// 0 [done ended waits]
	// 1 5
	// 0 [done ended runs] [{3 [2 3] 5 10}]
	// 0 [done ended ended] [0 4 5]
	// [done ended runs] [0 1 4 5]
}
