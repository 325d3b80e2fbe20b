package verify

import (
	"strings"

	"waybill/aasa"
	"waybill/api"
	"waybill/chain"
	"waybill/fresh"
	"waybill/wire"
)

// check is the check of a host by an app.
type check struct {
	api.Check // but its State, which hangs on the tick at which it is asked for
	underway  bool
	assoc     api.Assoc       // what the document of Apple's that it knows tells
	links     []api.Statement // what those of Android's tell

	chain *chain.Chain // nil, while none goes on
	life  uint64       // by what came with the chain's root; 0, while nothing came
}

// needs tells whether a check needs a fetch at a tick.
func (c *check) needs(now uint64) bool {
	return !c.underway && (c.Due <= now || c.chain != nil)
}

// fetch gives the URL of the fetch that a check needs, which is under way from then on.
func (c *check) fetch() string {
	c.underway = true
	if c.Apple {
		return wire.AppleURL(c.Host)
	}
	if c.chain == nil {
		c.chain, c.life = chain.New(c.Host), 0
	}
	next, _ := c.chain.Next()
	return next
}

// deliverApple takes how the fetch of a check of Apple's has gone.
func (c *check) deliverApple(f api.Fetched, cache string, now uint64) {
	if f.Err != nil {
		c.fail(now)
		return
	}
	a, err := aasa.Decode(f.Body)
	if err != nil {
		c.fail(now)
		return
	}
	c.assoc = a
	c.succeed(fresh.Life(cache), now)
}

// deliverAndroid takes how the fetch of a check of Android's has gone.
func (c *check) deliverAndroid(f api.Fetched, cache string, now uint64) {
	// No life is 0: it is that of the root, whatever comes behind it.
	if c.life == 0 {
		c.life = fresh.Life(cache)
	}
	// An error would say that the chain is done; then it wouldn't go on.
	_ = c.chain.Deliver(f)
	if !c.chain.Done() {
		return
	}
	if c.chain.Err() != nil {
		c.fail(now)
	} else {
		c.links = c.chain.Statements()
		c.succeed(c.life, now)
	}
	c.chain = nil
}

// succeed says that a check's document, which is known now, may be used for a life.
func (c *check) succeed(life, now uint64) {
	c.Failures = 0
	c.Due = fresh.Later(now, life/2)
	c.Until = fresh.Later(now, life)
}

// fail says that no document came; one that is known stays.
func (c *check) fail(now uint64) {
	c.Failures++
	c.Due = fresh.Later(now, fresh.Wait(c.Failures))
}

// state gives a check's state at a tick.
func (c *check) state(now uint64) int {
	switch {
	case now < c.Until:
		return api.SiteGood
	case c.Failures != 0:
		return api.SiteFailed
	default:
		return api.SitePending
	}
}

// told gives what is told of a check at a tick.
func (c *check) told(now uint64) api.Check {
	one := c.Check
	one.App, one.Host, one.State = strings.Clone(c.App), copiedHost(c.Host), c.state(now)
	return one
}
