package front_test

import (
	"fmt"
	"sync"
	"testing"

	"breakwater/api"
	"breakwater/front"
)

func TestManyAsk(t *testing.T) { // P19.4, chapter 18: several goroutines at one time, each with files of its own, are answered as if they were alone
	r := rigOf(t, 600, 60)
	var group sync.WaitGroup
	for k := range 16 {
		group.Add(1)
		go func() {
			defer group.Done()
			name := fmt.Sprintf("/f%d", k)
			for round := range 30 {
				text := fmt.Sprintf("%d in round %d", k, round)
				for _, x := range []struct {
					o    api.Op
					want string
				}{
					{create(name), ""}, {write(name, round*9, text), ""}, {read(name, round*9, 99), text}, {unlink(name), ""}, {flush(round), ""},
				} {
					a, e := front.ReadAnswer(r.f.Do([]byte(encoded(x.o))))
					if e != api.OK || a.Code != api.OK || string(a.Data) != x.want {
						t.Errorf("%s: %s, %d", say(x.o), sayAnswer(a), e)
					}
				}
				r.f.Do([]byte{12, 0})
			}
		}()
	}
	group.Wait()
	r.is(list("/"), api.Answer{})
	done(t, r, syncAll())
	rigOn(t, r.d.Copy()).is(list("/"), api.Answer{})
}
