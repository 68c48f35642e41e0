package vault

import (
	"coffer/api"
	"coffer/fault"
	"coffer/image"
	"coffer/store"
)

// Images tells what lies at the stores.
func (v *Vault) Images() [][]byte {
	images := make([][]byte, len(v.stores))
	for i, s := range v.stores {
		images[i] = image.Made(s.Records(), len(v.stores), i)
	}
	return images
}

// Reopen makes a vault out of what lies at the stores.
func Reopen(images []string, key uint64) (*Vault, error) {
	stores, err := storesOf(images)
	v := &Vault{key: key, stores: stores}
	if err == nil {
		err = v.settle()
	}
	if err != nil {
		return nil, fault.At("reopen", fault.As(fault.Images, err))
	}
	// Reopen is none of the calls that write: what it settled does not count.
	v.pen = pen{}
	return v, nil
}

// storesOf is stores where there lies what the images tell.
func storesOf(images []string) ([]*store.Store, error) {
	if len(images) < 1 || len(images) > api.MaxStores {
		return nil, fault.AtCount(len(images), "images", fault.Store)
	}
	stores := make([]*store.Store, len(images))
	for i, text := range images {
		records, err := image.Records(text, len(images), i)
		if err != nil {
			return nil, fault.AtStore(i, err)
		}
		stores[i] = new(store.Store)
		for _, r := range records {
			stores[i].Add(r)
		}
	}
	return stores, nil
}
