package lock

import (
	"demurral/derive"
	"demurral/stream"
)

const (
	word      = "lock"
	manyKeys  = 3
	nonceSize = 12
)

// keys are those of a message's key: the one that encrypts, the one that tags, and the nonce.
type keys struct {
	hide, tag, nonce string
}

// keysOf splits to fewer keys than a secret has at most: no error can come.
func keysOf(key string) keys {
	l, _ := derive.Split(key, word, manyKeys)
	return keys{hide: l[0], tag: l[1], nonce: l[2][:nonceSize]}
}

// turned is a text encrypted, and of that the text again. The keys are keysOf's, and a text has fewer bytes than a stream at most: no error can come.
func (k keys) turned(s string) string {
	out, _ := stream.Xor(k.hide, k.nonce, s)
	return out
}

// locker is what locks and opens with a head. Who just has the key that tags makes one without the others, which can tag, but not turn.
type locker struct {
	keys
	head string
}

// tagOf is the tag of the head and of bytes. How many the head has stands ahead, so that no byte can go from its end to the bytes' beginning.
func (l locker) tagOf(bytes string) string {
	return derive.Tag(l.tag, sizeOf(l.head)+l.head+bytes)
}

func (l locker) tagged(bytes string) string { return bytes + l.tagOf(bytes) }

// sizeOf is how many bytes a head has, as 2 bytes, the highest first.
func sizeOf(head string) string {
	return string([]byte{byte(len(head) >> 8), byte(len(head))})
}
