package service

import (
	"slices"

	"errand/api"
)

type board struct {
	posts []string
}

func (b *board) Do(proc int, arg []api.Item) []api.Item {
	if proc == 0 {
		return b.post(arg[0].S)
	}
	return b.show(arg[0].N)
}

func (b *board) post(text string) []api.Item {
	b.posts = append(b.posts, text)
	if len(b.posts) > api.Posts {
		b.posts = slices.Delete(b.posts, 0, 1)
	}
	return []api.Item{{N: len(b.posts)}}
}

func (b *board) show(most int) []api.Item {
	count := min(most, len(b.posts))
	shown := []api.Item{{N: count}}
	for _, text := range b.posts[:count] {
		shown = append(shown, api.Item{S: text})
	}
	return shown
}
