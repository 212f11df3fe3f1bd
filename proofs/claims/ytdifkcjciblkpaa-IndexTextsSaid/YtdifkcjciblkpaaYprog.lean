/- The program's tables keep all their contracts. Conditions: none beyond those typed. -/
import Derived.Test.YtdifkcjciblkpaaYkeys
namespace Go.Proofs.Ytdifkcjciblkpaa
open Go.ChangeShapes Go.WideShapes Go.ChangeAt Go.RowKit
set_option linter.unusedVariables false
set_option linter.unusedSimpArgs false

theorem progMi : ProgMi PMi where
  keep := fun h hs hp h0 => h.keep hs hp h0
  good := fun h => h.1
  new := fun ht hk hT n seed hn hs => newi_any ht hk hT n seed hn hs
  put := fun h ht s v hs _ => puti_any h ht s v hs
  get := fun h ht s hs => geti_any h ht s hs
  del := fun h ht s hs => deli_any h ht s hs
  len := fun h _ => leni_any h
theorem progK : ProgMk PMi where
  all := progMi
  keys := fun h ht => keysi_any h ht
  noneGet := noneGeti
  noneDel := noneDeli
  nonePut := nonePuti
  noneLen := noneLeni
  noneKeys := noneKeysi
theorem progS : ProgMs PMs where
  keep := fun h hs hp h0 => h.keep hs hp h0
  good := fun h => h.1
  new := fun ht hk hT n seed hn hs => news_any ht hk hT n seed hn hs
  put := fun h ht s v hs _ => puts_any h ht s v hs
  get := fun h ht s hs => gets_any h ht s hs
  del := fun h ht s hs => dels_any h ht s hs
  len := fun h _ => lens_any h
end Go.Proofs.Ytdifkcjciblkpaa
