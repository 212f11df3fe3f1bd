/- Bytes made into a string; a slice of zero bytes. Conditions: none beyond those typed. -/
import Derived.Test.YtenchaifnfgijaaBm
namespace Go.Proofs.Ytenchaifnfgijaa
open Go.ChangeShapes Go.WideShapes Go.ChangeAt Go.RowKit
set_option linter.unusedVariables false
set_option linter.unusedSimpArgs false
set_option maxRecDepth 100000

theorem conv_bS {w : World} {b o n c : Nat} {l : List Int} (h : Rd w (some ⟨b, o, none⟩) n c l) :
    (convert 89 9 (.slice (some ⟨b, o, none⟩) n c)).run Try.prog w = .ok (.string (bS l)) w := by
  have hl := h.len
  have hb := h.bytes
  have e := run_convert_bytes_back (P := Try.prog) w 89 9 5 ⟨b, o, none⟩ c (l.map fun z => UInt8.ofNat z.toNat) Try.underlying89 Try.underlying5 Try.underlying9 (fun j hj => by
    have hj' : j < l.length := by simpa using hj
    obtain ⟨b', o', hA, hc⟩ := h.2.2.2.2 j _ (List.getElem?_eq_getElem hj')
    injection hA with hA; injection hA with e1 e2; subst e1; subst e2
    rw [Addr.add_lit]
    have hz := hb _ (List.getElem_mem hj')
    have : ((UInt8.ofNat (l[j]).toNat).toNat : Int) = l[j] := by rw [UInt8.toNat_ofNat']; omega
    rw [List.getElem_map, this]
    exact hc)
  rw [List.length_map, hl] at e
  exact e
theorem made_zero (v : Nat) : (madeCells #[Value.int .u8 0] v).toList = (List.replicate v (0 : Int)).map (Value.int .u8) := by
  rw [toList_madeCells_one, List.map_replicate]
theorem Rd.zeros {w : World} {base g v : Nat} (h : w.ownsRow base 5 1 (.slice (some ⟨g, 0, none⟩) v v) v (madeCells #[Value.int .u8 0] v).toList) (hv : v ≤ maxLen) : Rd w (some ⟨g, 0, none⟩) v v (List.replicate v 0) := by
  rw [made_zero] at h
  refine ⟨by simp, Nat.le_refl _, hv, fun z hz => by have := List.eq_of_mem_replicate hz; omega, fun j z hz => ⟨g, 0, rfl, ?_⟩⟩
  have hc := h.cells (g := g) rfl j (.int .u8 z) (by rw [List.getElem?_map, hz]; rfl)
  rw [Addr.add_lit] at hc
  exact hc
end Go.Proofs.Ytenchaifnfgijaa
