package sound

import "analemma/api"

// bearer is what has a name: a zone or a link, by its place.
type bearer struct{ kind, at int }

// bearers are what names mean: the first zone of each name, or, if there is none, the first link.
type bearers map[string]bearer

// bearersOf are what the names in a source mean, be it right or not.
func bearersOf(s api.Source) bearers {
	m := bearers{}
	for at, x := range s.Zones {
		m.add(x.Name, bearer{api.FlawZone, at})
	}
	for at, x := range s.Links {
		m.add(x.Name, bearer{api.FlawLink, at})
	}
	return m
}

// add adds what has a name, if it is the first one.
func (m bearers) add(name string, x bearer) {
	if !m.has(name) {
		m[name] = x
	}
}

// has tells whether a zone or a link has a name.
func (m bearers) has(name string) bool {
	_, ok := m[name]
	return ok
}

// zone is the place of the zone to which a name leads by these links, if it leads to one.
func (m bearers) zone(links []api.Link, name string) (int, bool) {
	// Whoever has followed as many links as there are, and is at a link again, goes around for ever.
	for range len(links) + 1 {
		x, ok := m[name]
		if !ok {
			return 0, false
		}
		if x.kind == api.FlawZone {
			return x.at, true
		}
		name = links[x.at].Target
	}
	return 0, false
}
