package front

import "breakwater/api"

// ReadAnswer is the answer whose bytes these are.
func ReadAnswer(b []byte) (api.Answer, api.Errno) {
	var a api.Answer
	r := reader{rest: b}
	if err := r.readLast(answerParts(&a)...); err != nil {
		return api.Answer{}, errnoOf(err)
	}
	return a, api.OK
}

// answerParts are those of an answer. Whatever a file system answers has room in them.
func answerParts(a *api.Answer) []part {
	s := &a.Stat
	return []part{
		code{&a.Code},
		count{&s.Ino}, count{&s.Kind}, count{&s.Links}, count{&s.Size}, long{&s.Made, api.MaxMade}, count{&s.Blocks},
		data{&a.Data},
		entries{&a.Entries},
		flag{&a.Landed},
	}
}

// entryParts are those of one entry.
func entryParts(e *api.Entry) []part {
	return []part{text{&e.Name, api.MaxName}, count{&e.Ino}, octet{&e.Kind}}
}
