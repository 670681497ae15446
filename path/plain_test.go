package path_test

import (
	"bytes"

	"breakwater/api"
)

// plainCheck, plainSplit and plainJoin are the same calls, written byte by byte and of the words of the chapter alone.

func plainCheck(name []byte) api.Errno {
	if len(name) == 0 || len(name) > 40 || bytes.IndexByte(name, 0) >= 0 || bytes.IndexByte(name, '/') >= 0 {
		return api.ErrPathName
	}
	if bytes.Equal(name, []byte{'.'}) || bytes.Equal(name, []byte{'.', '.'}) {
		return api.ErrPathName
	}
	return api.OK
}

func plainSplit(p []byte) ([]string, api.Errno) {
	if len(p) == 1 && p[0] == '/' {
		return nil, api.OK
	}
	if len(p) == 0 || len(p) > 400 || p[0] != '/' || p[len(p)-1] == '/' {
		return nil, api.ErrPathForm
	}
	for i := 1; i < len(p); i++ {
		if p[i] == '/' && p[i-1] == '/' {
			return nil, api.ErrPathForm
		}
	}
	var names []string
	for rest := p; len(rest) > 0; {
		end := 1
		for end < len(rest) && rest[end] != '/' {
			end++
		}
		if plainCheck(rest[1:end]) != api.OK {
			return nil, api.ErrPathName
		}
		names = append(names, string(rest[1:end]))
		rest = rest[end:]
	}
	return names, api.OK
}

func plainJoin(names []string) (string, api.Errno) {
	var p []byte
	for _, name := range names {
		if plainCheck([]byte(name)) != api.OK {
			return "", api.ErrPathName
		}
		p = append(p, '/')
		p = append(p, name...)
	}
	if len(p) > 400 {
		return "", api.ErrPathForm
	}
	if len(p) == 0 {
		return "/", api.OK
	}
	return string(p), api.OK
}
