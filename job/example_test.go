package job_test

import (
	"fmt"

	"bailiwick/api"
	"bailiwick/job"
)

// Example is the document's, and what README.md shows.
func Example() {
	j := api.Job{ID: 2, Spec: api.Spec{Nodes: 1, Cores: 2, Long: 10}, Needs: []int{1}, Came: 1}
	fmt.Println(job.Right(j), job.Name(j.State))
	j, e := job.Do(j, api.DoStart, 3)
	fmt.Println(job.Name(j.State), j.From, e)
	j, e = job.Do(j, api.DoEnd, 9)
	fmt.Println(job.Name(j.State), j.From, j.To, e)
	fmt.Println(job.Over(j.State))
	_, e = job.Do(j, api.DoCancel, 9)
	fmt.Println(e == api.ErrState)
	// Output:
	// true waits
	// runs 3 0
	// done 3 9 0
	// true
	// true
}
