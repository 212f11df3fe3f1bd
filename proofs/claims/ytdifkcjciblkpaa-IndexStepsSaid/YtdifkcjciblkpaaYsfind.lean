/- The program's tables of string values: where a search ends. Conditions: none beyond those typed. -/
import Derived.Test.YtdifkcjciblkpaaYsbox
namespace Go.Proofs.Ytdifkcjciblkpaa
open Go.ChangeShapes Go.WideShapes Go.ChangeAt Go.RowKit
set_option linter.unusedVariables false
set_option linter.unusedSimpArgs false
set_option maxRecDepth 100000

section
variable {P : Nat → Prop} {col col' : Col} {w w' : World} {k g n u N : Nat} {T : List Int} {seed : Int} {A : Option Addr} {cT b c : Nat} {t : Tb ByteArray} {home : ByteArray → Nat} {s : ByteArray}
/-- Where a search ends: at the key, or at a free place, and then the key is nowhere. -/
def Founds (t : Tb ByteArray) (home : ByteArray → Nat) (s : ByteArray) (i : Nat) (yes : Bool) : Prop :=
  (yes = true ∧ ∃ v, t[i]? = some (some (s, v))) ∨ (yes = false ∧ Emp t i ∧ (∀ q, q < t.length → dst t.length (home s) q < dst t.length (home s) i → Occ t q) ∧ ∀ (p : Nat) (v : ByteArray), t[p]? ≠ some (some (s, v)))
def FindOuts (t : Tb ByteArray) (home : ByteArray → Nat) (s : ByteArray) (N : Nat) (w : World) (r : Ending) (w' : World) : Prop := ∃ (i : Nat) (yes : Bool), r = .returned (.tuple #[.int .i64 i, .bool yes]) ∧ i < N ∧ Founds t home s i yes ∧ w = w'
set_option maxHeartbeats 2000000 in
theorem finds_any (h : Mxs col k w g n u N T seed A cT b c (t.map (plOf (⟨#[]⟩ : ByteArray) home))) (hL : LP home t) {e : Nat} (he : Emp t e) :
    Calls Try.prog 41 #[.pointer (some ⟨g, 0, none⟩), .string s, .int .i64 (home s : Int)] w (FindOuts t home s N w) := by
  have hN := h.nN
  have hn := h.n1
  have hlen : t.length = N := by have := h.len; simpa using this
  have heN : e < N := by rw [← hlen]; exact (List.getElem?_eq_some_iff.1 he).1
  have hsN : home s < N := by rw [← hlen]; exact hL.hm s
  have x4 := h.c4
  obtain ⟨hcp, hcm⟩ := h.cap
  have hN6 : N ≤ 16384 := by omega
  have hN0 : 0 < N := by omega
  clear hN
  go_enter Try.func41, Try.ntmps41
  go_wp2
  go_loopw [8] (fun iv wr => ∃ i : Nat, i < N ∧ iv = .int .i64 (i : Int) ∧ dst N (home s) i ≤ dst N (home s) e ∧ (∀ q, q < N → dst N (home s) q < dst N (home s) i → ∃ x, t[q]? = some (some x) ∧ x.1 ≠ s) ∧ wr = w) (fun iv _ => dst N (home s) e - dst N (home s) (intOf iv).toNat)
  case atStart => exact ⟨home s, hsN, rfl, by rw [dst_self]; exact Nat.zero_le _, fun q _ h0 => by rw [dst_self] at h0; exact absurd h0 (Nat.not_lt_zero _), rfl⟩
  case round =>
    obtain ⟨i, hi, rfl, hd, hq, hwr⟩ := hrel
    subst hwr
    have hil : i < t.length := by omega
    rcases occ_or hil with ⟨⟨kk, v⟩, ho⟩ | hem
    · have hr : (t.map (plOf (⟨#[]⟩ : ByteArray) home))[i]? = some (plOf (⟨#[]⟩ : ByteArray) home (some (kk, v))) := by rw [List.getElem?_map, ho]; rfl
      obtain ⟨y0, _, y2, _, _⟩ := h.at_ hr
      have y0' : wr.cell? ⟨b, i * 4, none⟩ = some (.bool true) := y0
      have y2' : wr.cell? ⟨b, i * 4 + 2, none⟩ = some (.string kk) := y2
      have hiN : (i : Int) < (N : Int) := by omega
      have hie : i ≠ e := fun e' => by subst e'; unfold Emp at he; rw [he] at ho; cases ho
      have hdlt : dst N (home s) i < dst N (home s) e := by
        rcases Nat.lt_or_ge (dst N (home s) i) (dst N (home s) e) with h1 | h1
        · exact h1
        · exact absurd (dst_inj hsN hi heN (by omega)) hie
      have hnx := dst_next hsN hi
      have hde := dst_lt hsN heN
      rw [if_neg (by omega)] at hnx
      have hnl : (i + 1) % N < N := next_lt hN0 i
      clear y0 y2 hr hil
      by_cases hk : kk = s
      · have hb : (kk.toList == s.toList) = true := by rw [str_eq_at]; exact decide_eq_true hk
        have HF := Lib.hid (show Founds t home s i true from .inl ⟨rfl, v, by rw [ho, hk]⟩)
        clear hk ho hq hnx hdlt hd hL he h
        go_wp2
        go_ret2
        exact ⟨i, true, rfl, hi, HF.out, rfl⟩
      · have hb : (kk.toList == s.toList) = false := by rw [str_eq_at]; exact decide_eq_false hk
        have HN := nexts_any h hi rfl
        have HQ := Lib.hid (show ∀ q, q < N → dst N (home s) q < dst N (home s) ((i + 1) % N) → ∃ x, t[q]? = some (some x) ∧ x.1 ≠ s from fun q h1 h2 => by
          rcases Nat.lt_or_ge (dst N (home s) q) (dst N (home s) i) with h3 | h3
          · exact hq q h1 h3
          · obtain rfl := dst_inj hsN h1 hi (by omega)
            exact ⟨_, ho, hk⟩)
        have HK := Lib.hid hk
        have HM := Lib.hid (show dst N (home s) ((i + 1) % N) ≤ dst N (home s) e by omega)
        have HM2 := Lib.hid (show dst N (home s) e - dst N (home s) ((i + 1) % N) < dst N (home s) e - dst N (home s) i by omega)
        clear hk ho hq hL he h hd hdlt hnx hde hie
        generalize (i + 1) % N = i1 at *
        go_wp2_with fail
        refine HN.mono ?_
        rintro r w1 ⟨rfl, hw⟩
        subst hw
        go_wp2
        go_roundw
        case rel => exact ⟨i1, hnl, rfl, HM.out, HQ.out, (by first | rfl | trivial)⟩
        case measure => simpa [intOf] using HM2.out
    · have hr : (t.map (plOf (⟨#[]⟩ : ByteArray) home))[i]? = some (plOf (⟨#[]⟩ : ByteArray) home none) := by
        have hem' : t[i]? = some none := hem
        rw [List.getElem?_map, hem']; rfl
      obtain ⟨y0, _, _, _, _⟩ := h.at_ hr
      have y0' : wr.cell? ⟨b, i * 4, none⟩ = some (.bool false) := y0
      have hiN : (i : Int) < (N : Int) := by omega
      have HF := Lib.hid (show Founds t home s i false from .inr ⟨rfl, hem, fun q h1 h2 => by
        rw [hlen] at h1 h2
        obtain ⟨x, hx, _⟩ := hq q h1 h2
        exact ⟨x, hx⟩, hL.miss hem fun q h1 h2 v' hv => by
        rw [hlen] at h1 h2
        obtain ⟨x, hx, hne⟩ := hq q h1 h2
        rw [hv] at hx; injection hx with hx; injection hx with hx; subst hx; exact hne rfl⟩)
      clear y0 hr hil hem hq hL he h hd
      go_wp2
      go_ret2
      exact ⟨i, false, rfl, hi, HF.out, rfl⟩
end
end Go.Proofs.Ytdifkcjciblkpaa
