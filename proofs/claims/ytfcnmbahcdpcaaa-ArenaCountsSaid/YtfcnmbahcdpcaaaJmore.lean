/- What an allocation gives, as plain data; a remainder. Conditions: none beyond those typed. -/
import Derived.Test.YtfcnmbahcdpcaaaAprog
namespace Go.Proofs.Ytfcnmbahcdpcaaa
set_option linter.unusedVariables false
set_option linter.unusedSimpArgs false

/-- What an allocation gives is a handle of 64 bits. -/
theorem alloc_64 {x : ASt} (hG : GoodA x) (z : Int) (ht : x.t ≤ 1000000000) : Hd64 (x.alloc z).1.1 := by
  have hz : Hd64 ((0, 0, 0) : Hd) := by simp [Hd64, I64]
  have hl := hG.l.n8
  unfold ASt.alloc
  split
  · exact hz
  · rename_i c hc
    have hcl := fit_lt hc
    unfold ASt.take
    split
    · rename_i p hp
      obtain ⟨j, y, hf, hs, hyc⟩ := lastAt_some hp
      have hy := hG.sl y (List.mem_of_getElem? hs)
      have hn : x.nx.getD y.c 0 ≤ 65536 := by
        have hcn : y.c < x.nx.length := by rw [hG.nx]; exact hy.1
        have hg : x.nx[y.c]? = some x.nx[y.c] := List.getElem?_eq_getElem hcn
        rw [getD_at hg]; exact hG.nxle hg
      rw [getD_at hf]
      simp only [List.getElem?_modify, hs]
      simp only [Hd64, I64, Sl.h, Sl.again, Option.map_some, Option.map_eq_map, if_true, Option.getD_some]
      omega
    · split
      · exact hz
      · have hcn : c < x.nx.length := by rw [hG.nx]; exact hcl
        have hg : x.nx[c]? = some x.nx[c] := List.getElem?_eq_getElem hcn
        have h6 := hG.nxle hg
        rw [getD_at hg]
        simp only [Hd64, I64]
        omega
theorem alloc_fail {x : ASt} {z : Int} (h : ¬ (x.alloc z).1.2 = 0) : (x.alloc z).2 = x.tick := by
  unfold ASt.alloc at h ⊢
  split
  · rfl
  · rename_i c hc
    rw [hc] at h
    simp only at h
    unfold ASt.take at h ⊢
    split
    · rename_i p hp
      rw [hp] at h; simp at h
    · rename_i hp
      rw [hp] at h
      split
      · rfl
      · rename_i hn; rw [if_neg hn] at h; simp at h
theorem modN (n : Int) (m : Nat) (hm : 0 < m) (h0 : 0 ≤ n) : ∃ N : Nat, n.tmod m = (N : Int) ∧ N < m := by
  have h1 := Int.tmod_eq_emod_of_nonneg (b := (m : Int)) h0
  have h2 := Int.emod_nonneg n (show (m : Int) ≠ 0 by omega)
  have h3 := Int.emod_lt_of_pos n (show 0 < (m : Int) by omega)
  exact ⟨(n % m).toNat, by rw [h1]; omega, by omega⟩
end Go.Proofs.Ytfcnmbahcdpcaaa
