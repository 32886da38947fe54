package trial

import "midden/api"

// A Job is a job of a run, as one sees it who follows the run's steps.
type Job struct {
	api.Job
	Hand  int
	Steps int        // how many it has made, the one that is told among them
	Note  uint64     // 0 at first, and then the follower's own
	Ended bool       // set by the follower, with what the job is to tell
	Want  api.Answer // of a job that has ended
}

// End: the job has ended with the step that is told, and tells that.
func (j *Job) End(want api.Answer) { j.Ended, j.Want = true, want }

// HoldFollowed fails, if the jobs of a run don't end where one says who follows its steps, or tell something else. What
// follow answers is what is wrong with a step; "" is nothing.
func HoldFollowed(t T, x api.Trace, hands [][]api.Job, answers [][]api.Answer, follow func(j *Job, s api.Step) string) {
	t.Helper()
	jobs := make([]Job, len(hands))
	number := make([]int, len(hands))
	for i, s := range x.Steps {
		h := s.Hand
		j := &jobs[h]
		j.Job, j.Hand = hands[h][number[h]], h
		j.Steps++
		if fault := follow(j, s); fault != "" {
			t.Fatalf("step %d of %v: %s", i, x, fault)
		}
		if !j.Ended {
			continue
		}
		if number[h] >= len(answers[h]) || answers[h][number[h]] != j.Want {
			t.Fatalf("step %d of %v: hand %d, job %d: %v; want %v", i, x, h, number[h], answers[h], j.Want)
		}
		jobs[h] = Job{}
		number[h]++
	}
	for h := range hands {
		if number[h] != len(answers[h]) {
			t.Fatalf("%v: hand %d has ended %d jobs, but told %d", x, h, number[h], len(answers[h]))
		}
	}
}

// CountLost: how many CAS of a hand on that word were not done.
func CountLost(x api.Trace, hand, at int) int {
	n := 0
	for _, s := range x.Steps {
		if s.Hand == hand && s.At == at && s.Act == api.CAS && !s.OK {
			n++
		}
	}
	return n
}
