/- Words laid together in one text. Conditions: none beyond those typed. -/
import Derived.Test.YtlfhkhnhcckajaaGreatDoorZ15
import Derived.Deep.CutRange
import Derived.Test.YtlfhkhnhcckajaaGreatDoorShelfc
import Derived.Test.YtlfhkhnhcckajaaGreatDoorBase
/- The program's tables of int values: where a search ends. Conditions: none beyond those typed. -/
namespace Go.Proofs.YtlfhkhnhcckajaaGreatDoor
open Go.ChangeShapes Go.WideShapes Go.ChangeAt Go.RowKit
set_option linter.unusedVariables false
set_option linter.unusedSimpArgs false
set_option maxRecDepth 100000

section
variable {P : Nat → Prop} {col col' : Col} {w w' : World} {k g n u N : Nat} {T : List Int} {seed : Int} {A : Option Addr} {cT b c : Nat} {t : Tb Int} {home : ByteArray → Nat} {s : ByteArray}
/-- Where a search ends: at the key, or at a free place, and then the key is nowhere. -/
def Foundi (t : Tb Int) (home : ByteArray → Nat) (s : ByteArray) (i : Nat) (yes : Bool) : Prop :=
  (yes = true ∧ ∃ v, t[i]? = some (some (s, v))) ∨ (yes = false ∧ Emp t i ∧ (∀ q, q < t.length → dst t.length (home s) q < dst t.length (home s) i → Occ t q) ∧ ∀ (p : Nat) (v : Int), t[p]? ≠ some (some (s, v)))
def FindOuti (t : Tb Int) (home : ByteArray → Nat) (s : ByteArray) (N : Nat) (w : World) (r : Ending) (w' : World) : Prop := ∃ (i : Nat) (yes : Bool), r = .returned (.tuple #[.int .i64 i, .bool yes]) ∧ i < N ∧ Foundi t home s i yes ∧ w = w'
set_option maxHeartbeats 2000000 in
theorem findi_any (h : Mxi col k w g n u N T seed A cT b c (t.map (plOf (0 : Int) home))) (hL : LP home t) {e : Nat} (he : Emp t e) :
    Calls Tryz.prog 69 #[.pointer (some ⟨g, 0, none⟩), .string s, .int .i64 (home s : Int)] w (FindOuti t home s N w) := by
  have hN := h.nN
  have hn := h.n1
  have hlen : t.length = N := by have := h.len; simpa using this
  have heN : e < N := by rw [← hlen]; exact (List.getElem?_eq_some_iff.1 he).1
  have hsN : home s < N := by rw [← hlen]; exact hL.hm s
  have x4 := h.c4
  obtain ⟨hcp, hcm⟩ := h.cap
  have hN6 : N ≤ 16384 := by omega
  have hN0 : 0 < N := by omega
  clear hN
  go_enter Tryz.func69, Tryz.ntmps69
  go_wp2
  go_loopw [8] (fun iv wr => ∃ i : Nat, i < N ∧ iv = .int .i64 (i : Int) ∧ dst N (home s) i ≤ dst N (home s) e ∧ (∀ q, q < N → dst N (home s) q < dst N (home s) i → ∃ x, t[q]? = some (some x) ∧ x.1 ≠ s) ∧ wr = w) (fun iv _ => dst N (home s) e - dst N (home s) (intOf iv).toNat)
  case atStart => exact ⟨home s, hsN, rfl, by rw [dst_self]; exact Nat.zero_le _, fun q _ h0 => by rw [dst_self] at h0; exact absurd h0 (Nat.not_lt_zero _), rfl⟩
  case round =>
    obtain ⟨i, hi, rfl, hd, hq, hwr⟩ := hrel
    subst hwr
    have hil : i < t.length := by omega
    rcases occ_or hil with ⟨⟨kk, v⟩, ho⟩ | hem
    · have hr : (t.map (plOf (0 : Int) home))[i]? = some (plOf (0 : Int) home (some (kk, v))) := by rw [List.getElem?_map, ho]; rfl
      obtain ⟨y0, _, y2, _, _⟩ := h.at_ hr
      have y0' : wr.cell? ⟨b, i * 4, none⟩ = some (.bool true) := y0
      have y2' : wr.cell? ⟨b, i * 4 + 2, none⟩ = some (.string kk) := y2
      have hiN : (i : Int) < (N : Int) := by omega
      have hie : i ≠ e := fun e' => by subst e'; unfold Emp at he; rw [he] at ho; cases ho
      have hdlt : dst N (home s) i < dst N (home s) e := by
        rcases Nat.lt_or_ge (dst N (home s) i) (dst N (home s) e) with h1 | h1
        · exact h1
        · exact absurd (dst_inj hsN hi heN (by omega)) hie
      have hnx := dst_next hsN hi
      have hde := dst_lt hsN heN
      rw [if_neg (by omega)] at hnx
      have hnl : (i + 1) % N < N := next_lt hN0 i
      clear y0 y2 hr hil
      by_cases hk : kk = s
      · have hb : (kk.toList == s.toList) = true := by rw [str_eq_at]; exact decide_eq_true hk
        have HF := Lib.hid (show Foundi t home s i true from .inl ⟨rfl, v, by rw [ho, hk]⟩)
        clear hk ho hq hnx hdlt hd hL he h
        go_wp2
        go_ret2
        exact ⟨i, true, rfl, hi, HF.out, rfl⟩
      · have hb : (kk.toList == s.toList) = false := by rw [str_eq_at]; exact decide_eq_false hk
        have HN := nexti_any h hi rfl
        have HQ := Lib.hid (show ∀ q, q < N → dst N (home s) q < dst N (home s) ((i + 1) % N) → ∃ x, t[q]? = some (some x) ∧ x.1 ≠ s from fun q h1 h2 => by
          rcases Nat.lt_or_ge (dst N (home s) q) (dst N (home s) i) with h3 | h3
          · exact hq q h1 h3
          · obtain rfl := dst_inj hsN h1 hi (by omega)
            exact ⟨_, ho, hk⟩)
        have HK := Lib.hid hk
        have HM := Lib.hid (show dst N (home s) ((i + 1) % N) ≤ dst N (home s) e by omega)
        have HM2 := Lib.hid (show dst N (home s) e - dst N (home s) ((i + 1) % N) < dst N (home s) e - dst N (home s) i by omega)
        clear hk ho hq hL he h hd hdlt hnx hde hie
        generalize (i + 1) % N = i1 at *
        go_wp2_with fail
        refine HN.mono ?_
        rintro r w1 ⟨rfl, hw⟩
        subst hw
        go_wp2
        go_roundw
        case rel => exact ⟨i1, hnl, rfl, HM.out, HQ.out, (by first | rfl | trivial)⟩
        case measure => simpa [intOf] using HM2.out
    · have hr : (t.map (plOf (0 : Int) home))[i]? = some (plOf (0 : Int) home none) := by
        have hem' : t[i]? = some none := hem
        rw [List.getElem?_map, hem']; rfl
      obtain ⟨y0, _, _, _, _⟩ := h.at_ hr
      have y0' : wr.cell? ⟨b, i * 4, none⟩ = some (.bool false) := y0
      have hiN : (i : Int) < (N : Int) := by omega
      have HF := Lib.hid (show Foundi t home s i false from .inr ⟨rfl, hem, fun q h1 h2 => by
        rw [hlen] at h1 h2
        obtain ⟨x, hx, _⟩ := hq q h1 h2
        exact ⟨x, hx⟩, hL.miss hem fun q h1 h2 v' hv => by
        rw [hlen] at h1 h2
        obtain ⟨x, hx, hne⟩ := hq q h1 h2
        rw [hv] at hx; injection hx with hx; injection hx with hx; subst hx; exact hne rfl⟩)
      clear y0 hr hil hem hq hL he h hd
      go_wp2
      go_ret2
      exact ⟨i, false, rfl, hi, HF.out, rfl⟩
end
end Go.Proofs.YtlfhkhnhcckajaaGreatDoor

/- The program's tables of int values: a deletion, which moves later elements back. Conditions: none beyond those typed. -/
namespace Go.Proofs.YtlfhkhnhcckajaaGreatDoor
open Go.ChangeShapes Go.WideShapes Go.ChangeAt Go.RowKit
set_option linter.unusedVariables false
set_option linter.unusedSimpArgs false
set_option maxRecDepth 100000

section
variable {P : Nat → Prop} {col col' : Col} {w w' W W' : World} {k g n u N : Nat} {T : List Int} {seed : Int} {A : Option Addr} {cT b c : Nat} {t t0 : Tb Int} {home : ByteArray → Nat} {s kk : ByteArray} {m : MSt Int} {e hh j i0 : Nat} {x : Option (ByteArray × Int)} {v : Int}
/-- Amid a deletion: the gap at hh still holds what was there. -/
structure CutAti (col : Col) (k : Nat) (w : World) (g n u N : Nat) (T : List Int) (seed : Int) (A : Option Addr) (cT b c : Nat) (home : ByteArray → Nat) (m : MSt Int) (e : Nat) (W : World) (hh j : Nat) (t : Tb Int) (x : Option (ByteArray × Int)) : Prop where
  len : t.length = N
  lph : LPh home t hh j
  rel : RelT t m
  emp : Emp t e
  ne : e ≠ hh
  dd : dst N hh j < dst N hh e
  mx : Mxi col k W g n u N T seed A cT b c ((t.set hh x).map (plOf (0 : Int) home))
  st : StepC (fun d => d = k + 1) col w col W
theorem CutAti.facts (h : CutAti col k w g n u N T seed A cT b c home m e W hh j t x) : hh < N ∧ j < N ∧ e < N ∧ (j + 1) % N < N ∧ (j + 1) % N ≠ hh ∧ dst N hh ((j + 1) % N) = dst N hh j + 1 ∧ ∀ y, t[(j + 1) % N]? = some y → ((t.set hh x).map (plOf (0 : Int) home))[(j + 1) % N]? = some (plOf (0 : Int) home y) := by
  have hl := h.len
  have h1 : hh < N := by rw [← hl]; exact (List.getElem?_eq_some_iff.1 h.lph.gap).1
  have h2 : j < N := by rw [← hl]; exact h.lph.jl
  have h3 : e < N := by rw [← hl]; exact (List.getElem?_eq_some_iff.1 h.emp).1
  have h4 : (j + 1) % N < N := next_lt (by omega) j
  have h5 := dst_next h1 h2
  have h6 := dst_lt h1 h3
  have h7 := h.dd
  rw [if_neg (by omega)] at h5
  have h8 : (j + 1) % N ≠ hh := fun e' => by rw [e', dst_self] at h5; omega
  refine ⟨h1, h2, h3, h4, h8, h5, fun y hy => ?_⟩
  rw [List.getElem?_map, List.getElem?_set_ne (fun e' => h8 e'.symm), hy]; rfl
theorem CutAti.stay (h : CutAti col k w g n u N T seed A cT b c home m e W hh j t x) (ho : t[(j + 1) % N]? = some (some (kk, v))) (hno : ¬ dst N hh ((j + 1) % N) ≤ dst N (home kk) ((j + 1) % N)) : CutAti col k w g n u N T seed A cT b c home m e W hh ((j + 1) % N) t x := by
  obtain ⟨h1, h2, h3, h4, h5, h6, _⟩ := h.facts
  have hl := h.len
  have hm := h.lph.hm kk
  have hdd := h.dd
  have h7 := dst_lt h1 h3
  have hp := h.lph
  rw [hl] at hm
  have hs : LPh home t hh ((j + 1) % N) := by
    have := hp.stay (k := kk) (v := v) (by rw [hl]; omega) (by rw [hl]; exact ho) (by rw [hl]; exact fun hlt => hno ((dst_on hm h1 h4 h5.symm).2 hlt))
    rwa [hl] at this
  refine ⟨hl, hs, h.rel, h.emp, h.ne, ?_, h.mx, h.st⟩
  rcases Nat.lt_or_ge (dst N hh ((j + 1) % N)) (dst N hh e) with h8 | h8
  · exact h8
  · have e' := dst_inj h1 h4 h3 (by omega)
    have := h.emp
    unfold Emp at this
    rw [← e', ho] at this; cases this
theorem CutAti.move (h : CutAti col k w g n u N T seed A cT b c home m e W hh j t x) (ho : t[(j + 1) % N]? = some (some (kk, v))) (hyes : dst N hh ((j + 1) % N) ≤ dst N (home kk) ((j + 1) % N))
    (hW : Mxi col k W' g n u N T seed A cT b c (((t.set hh x).map (plOf (0 : Int) home)).set hh (plOf (0 : Int) home (some (kk, v))))) (hS : StepC (fun d => d = k + 1) col W col W') :
    ∃ t2 x2, CutAti col k w g n u N T seed A cT b c home m e W' ((j + 1) % N) ((j + 1) % N) t2 x2 := by
  obtain ⟨h1, h2, h3, h4, h5, h6, _⟩ := h.facts
  have hl := h.len
  have hm := h.lph.hm kk
  have hdd := h.dd
  have h7 := dst_lt h1 h3
  have hp := h.lph
  rw [hl] at hm
  have hei : e ≠ (j + 1) % N := fun e' => by
    have := h.emp
    unfold Emp at this
    rw [e', ho] at this; cases this
  have hhl : hh < t.length := by omega
  have hil : (j + 1) % N < (t.set hh (some (kk, v))).length := by rw [List.length_set]; omega
  have hs : LPh home ((t.set hh (some (kk, v))).set ((j + 1) % N) none) ((j + 1) % N) ((j + 1) % N) := by
    have := hp.move (k := kk) (v := v) (by rw [hl]; omega) (by rw [hl]; exact ho) (by rw [hl]; exact (dst_on hm h1 h4 h5.symm).1 hyes)
    rwa [hl] at this
  refine ⟨_, some (kk, v), by simp [hl], hs, h.rel.move h.lph.gap ho, ?_, hei, by rw [dst_self]; exact dst_pos h4 h3 hei.symm, ?_, h.st.trans hS⟩
  · unfold Emp
    rw [tb_set_at hil, if_neg hei.symm, tb_set_at hhl, if_neg h.ne.symm]; exact h.emp
  · have e1 : ((t.set hh (some (kk, v))).set ((j + 1) % N) none).set ((j + 1) % N) (some (kk, v)) = t.set hh (some (kk, v)) := by
      rw [List.set_set]
      exact list_set_self (by rw [tb_set_at hhl, if_neg h5.symm]; exact ho)
    rw [e1]
    rw [← List.map_set, List.set_set] at hW
    exact hW
/-- What a deletion leaves. -/
def CutOuti (col : Col) (k : Nat) (w : World) (g n u N : Nat) (T : List Int) (seed : Int) (A : Option Addr) (cT b c : Nat) (home : ByteArray → Nat) (m : MSt Int) (r : Ending) (w' : World) : Prop :=
  r = .returned (.tuple #[]) ∧ ∃ t, Mxi col k w' g n u N T seed A cT b c (t.map (plOf (0 : Int) home)) ∧ LP home t ∧ RelT t m ∧ StepC (fun d => d = k + 1) col w col w'
theorem CutAti.stop (h : CutAti col k w g n u N T seed A cT b c home m e W hh j t x) (ho : Emp t ((j + 1) % N))
    (hW : Mxi col k W' g n u N T seed A cT b c (((t.set hh x).map (plOf (0 : Int) home)).set hh (plOf (0 : Int) home none))) (hS : StepC (fun d => d = k + 1) col W col W') : CutOuti col k w g n u N T seed A cT b c home m (.returned (.tuple #[])) W' := by
  have hl := h.len
  refine ⟨rfl, t, ?_, h.lph.stop (by rw [hl]; exact ho), h.rel, h.st.trans hS⟩
  rw [← List.map_set, List.set_set, list_set_self h.lph.gap] at hW
  exact hW
set_option maxHeartbeats 4000000 in
theorem emptyi_any (h : Mxi col k w g n u N T seed A cT b c (t0.map (plOf (0 : Int) home))) (htd : Tidy col w) (hL : LP home t0) (R : RelT t0 m) (G : GoodM m) (hmn : m.l.length < N) (hi : t0[i0]? = some (some (s, v))) :
    Calls Tryz.prog 72 #[.pointer (some ⟨g, 0, none⟩), .int .i64 (i0 : Int)] w (CutOuti col k w g n u N T seed A cT b c home (m.del s)) := by
  have hN := h.nN
  have hn := h.n1
  have hlen : t0.length = N := by have := h.len; simpa using this
  have hil : i0 < t0.length := (List.getElem?_eq_some_iff.1 hi).1
  have hi0 : i0 < N := by omega
  obtain ⟨e, he⟩ := R.room G hL (by omega)
  have heN : e < N := by rw [← hlen]; exact (List.getElem?_eq_some_iff.1 he).1
  have hne : e ≠ i0 := fun e' => by subst e'; unfold Emp at he; rw [hi] at he; cases he
  have HNx := fun r hr => nexti_any h hi0 (r := r) hr
  have hrow : (t0.set i0 none).set i0 (some (s, v)) = t0 := by rw [List.set_set]; exact list_set_self hi
  have C0 : CutAti col k w g n u N T seed A cT b c home (m.del s) e w i0 i0 (t0.set i0 none) (some (s, v)) :=
    ⟨by rw [List.length_set]; exact hlen, hL.cut ⟨_, hi⟩, R.cut G hL hi, by unfold Emp; rw [tb_set_at hil, if_neg hne.symm]; exact he, hne, by rw [dst_self]; exact dst_pos hi0 heN hne.symm, by rw [hrow]; exact h, StepC.refl htd⟩
  have hN6 : N ≤ 16384 := by omega
  have hN0 : 0 < N := by omega
  obtain ⟨i1, hi1⟩ : ∃ i1, (i0 + 1) % N = i1 := ⟨_, rfl⟩
  replace HNx := HNx i1 hi1
  have HI1 := Lib.hid hi1
  clear hN h hL R G hmn hi hlen hil hrow he hi1
  go_enter Tryz.func72, Tryz.ntmps72
  go_wp2_with fail
  refine HNx.mono ?_
  rintro r w1 ⟨rfl, hw⟩
  subst hw
  go_wp2
  go_loopw [1, 4] (fun hv iv wr => ∃ (hh j i1 : Nat) (t : Tb Int) (x : Option (ByteArray × Int)), hv = .int .i64 (hh : Int) ∧ iv = .int .i64 (i1 : Int) ∧ i1 = (j + 1) % N ∧ CutAti col k w g n u N T seed A cT b c home (m.del s) e wr hh j t x) (fun _ iv _ => dst N (intOf iv).toNat e)
  case atStart => exact ⟨i0, i0, i1, _, _, rfl, rfl, HI1.out.symm, C0⟩
  case round =>
    clear C0 HNx hi0 hne HI1
    obtain ⟨hh, j, i1, t, x, rfl, rfl, hi1, C⟩ := hrel
    obtain ⟨h1, h2, h3, h4, h5, h6, h7⟩ := C.facts
    have M := C.mx
    have x4 := M.c4
    obtain ⟨hcp, hcm⟩ := M.cap
    have tdr := C.st.tidy
    have hhl : hh < t.length := by rw [C.len]; exact h1
    obtain ⟨z0, z1, z2, z3, fz⟩ := M.at_ (i := hh) (r := plOf (0 : Int) home x) (by rw [List.getElem?_map, tb_set_at hhl, if_pos rfl]; rfl)
    have hiI : (hh : Int) < (N : Int) := by omega
    have f0 := fz (hh * 4)
    have f1 := fz (hh * 4 + 1)
    have f2 := fz (hh * 4 + 2)
    have f3 := fz (hh * 4 + 3)
    have hlt : (j + 1) % N < t.length := by rw [C.len]; exact h4
    have hst := fun hne => dst_step (N := N) (e := e) h4 h3 hne
    have HI := Lib.hid hi1
    rw [← hi1] at h4 h5 h6 h7 hlt hst
    have h4I : (i1 : Int) < (N : Int) := by omega
    rcases occ_or hlt with ⟨⟨kk, v1⟩, ho⟩ | hem
    · obtain ⟨y0, y1, y2, y3, _⟩ := M.at_ (i := i1) (r := plOf (0 : Int) home (some (kk, v1))) (h7 _ ho)
      have hie : i1 ≠ e := fun e' => by
        have := C.emp
        unfold Emp at this
        rw [← e', ho] at this; cases this
      have hkN : home kk < N := by rw [← C.len]; exact C.lph.hm kk
      have y0' : wr.cell? ⟨b, i1 * 4, none⟩ = some (.bool true) := y0
      have y1' : wr.cell? ⟨b, i1 * 4 + 1, none⟩ = some (.int .i64 (home kk : Int)) := y1
      have y2' : wr.cell? ⟨b, i1 * 4 + 2, none⟩ = some (.string kk) := y2
      have y3' : wr.cell? ⟨b, i1 * 4 + 3, none⟩ = some ((fun z : Int => Value.int .i64 z) v1) := y3
      have S1 := Lib.hid (stepsi_any M hkN h4)
      have S2 := Lib.hid (fun q => stepsi_any (M.drewN tdr q) h1 h4)
      have hms := hst hie
      obtain ⟨i2, hi2⟩ : ∃ i2, (i1 + 1) % N = i2 := ⟨_, rfl⟩
      rw [hi2] at hms
      have hms2 := Lib.hid (show dst N i2 e < dst N i1 e by omega)
      have HI2 := Lib.hid hi2
      have HX := Lib.hid (fun (hge : dst N hh i1 ≤ dst N (home kk) i1) (q : Nat) => (show ∃ t2 x2, CutAti col k w g n u N T seed A cT b c home (m.del s) e (((((wr.drewN q).setCell ⟨b, hh * 4, none⟩ (.bool true)).setCell ⟨b, hh * 4 + 1, none⟩ (.int .i64 (home kk : Int))).setCell ⟨b, hh * 4 + 2, none⟩ (.string kk)).setCell ⟨b, hh * 4 + 3, none⟩ ((fun z : Int => Value.int .i64 z) v1)) i1 i1 t2 x2 from by
        obtain ⟨M2, s2⟩ := (M.drewN tdr q).put (tdr.size (Nat.le_refl _)) h1 (plOf (0 : Int) home (some (kk, v1)))
        have := C.move (kk := kk) (v := v1) (by rw [← hi1]; exact ho) (by rw [← hi1]; exact hge) M2 ((StepC.below tdr (below_drewN (Below.refl _ _) q)).trans s2)
        rwa [← hi1] at this))
      have HY := Lib.hid (fun (hge : ¬ dst N hh i1 ≤ dst N (home kk) i1) (q : Nat) => (show CutAti col k w g n u N T seed A cT b c home (m.del s) e (wr.drewN q) hh i1 t x from by
        have := C.stay (kk := kk) (v := v1) (by rw [← hi1]; exact ho) (by rw [← hi1]; exact hge)
        rw [← hi1] at this
        exact ⟨this.len, this.lph, this.rel, this.emp, this.ne, this.dd, M.drewN tdr q, C.st.trans (StepC.below tdr (below_drewN (Below.refl _ _) q))⟩))
      clear y0 y1 y2 y3 C ho hie hms hst h6 h7 h5 hi1 hi2
      by_cases hge : dst N hh i1 ≤ dst N (home kk) i1
      · have HXg := Lib.hid (HX.out hge)
        have HN2 := Lib.hid (fun q => (HXg.out q).elim fun t2 h => h.elim fun x2 C2 => nexti_any C2.mx h4 HI2.out)
        clear HY HX
        generalize dst N hh i1 = d2 at *
        generalize dst N (home kk) i1 = d1 at *
        have hgI : (d2 : Int) ≤ (d1 : Int) := by omega
        clear hge
        go_wp2_with fail
        refine S1.out.mono ?_
        rintro r w2 ⟨rfl, jq, rfl⟩
        go_wp2_with fail
        refine (S2.out _).mono ?_
        rintro r w2 ⟨rfl, jq2, rfl⟩
        clear S1 S2
        go_wp2
        go_region
        go_wp2_with fail
        refine (HN2.out _).mono ?_
        rintro r w3 ⟨rfl, hw⟩
        subst hw
        go_wp2
        go_roundw
        case rel => exact (HXg.out _).elim fun t2 h => h.elim fun x2 C2 => ⟨i1, i1, i2, t2, x2, rfl, rfl, HI2.out.symm, C2⟩
        case measure => simpa [intOf] using hms2.out
      · have HYg := Lib.hid (HY.out hge)
        clear HX HY
        generalize dst N hh i1 = d2 at *
        generalize dst N (home kk) i1 = d1 at *
        have hgI : ¬ (d2 : Int) ≤ (d1 : Int) := by omega
        clear hge
        go_wp2_with fail
        refine S1.out.mono ?_
        rintro r w2 ⟨rfl, jq, rfl⟩
        go_wp2_with fail
        refine (S2.out _).mono ?_
        rintro r w2 ⟨rfl, jq2, rfl⟩
        clear S1 S2
        have MD := M.drewN tdr (jq + jq2)
        go_wp2_with fail
        refine (nexti_any MD h4 HI2.out).mono ?_
        rintro r w3 ⟨rfl, hw⟩
        subst hw
        go_wp2
        go_roundw
        case rel => exact ⟨hh, i1, i2, t, x, rfl, rfl, HI2.out.symm, HYg.out _⟩
        case measure => simpa [intOf] using hms2.out
    · have hem' : t[i1]? = some none := hem
      obtain ⟨y0, _⟩ := M.at_ (i := i1) (r := plOf (0 : Int) home none) (h7 _ hem')
      have y0' : wr.cell? ⟨b, i1 * 4, none⟩ = some (.bool false) := y0
      have HX := Lib.hid (show CutOuti col k w g n u N T seed A cT b c home (m.del s) (.returned (.tuple #[])) ((((wr.setCell ⟨b, hh * 4, none⟩ (.bool false)).setCell ⟨b, hh * 4 + 1, none⟩ (.int .i64 0)).setCell ⟨b, hh * 4 + 2, none⟩ (.string ⟨#[]⟩)).setCell ⟨b, hh * 4 + 3, none⟩ (.int .i64 0)) from by
        obtain ⟨M2, s2⟩ := M.put tdr h1 (plOf (0 : Int) home none)
        exact C.stop (by rw [← hi1]; exact hem) M2 s2)
      clear y0 C hem hem' hst h6 h7 h5 hi1
      go_wp2
      go_end0
      exact HX.out
end
end Go.Proofs.YtlfhkhnhcckajaaGreatDoor

/- strings.Clone. Conditions: a text that fits into memory. -/
namespace Go.Proofs.YtlfhkhnhcckajaaGreatDoor
open Go.ChangeShapes Go.WideShapes Go.ChangeAt Go.RowKit
set_option linter.unusedVariables false
set_option linter.unusedSimpArgs false
theorem clone_str (s : ByteArray) (w : World) (hlim : s.size ≤ 281474976710656) : Calls Tryz.prog 60 #[.string s] w fun e w' => e = .returned (.string s) ∧ Below w.heap.size w w' := by
  go_enter Tryz.func60, Tryz.ntmps60
  go_wp2_with fail
  refine (Tryz.stringslite_Clone s w hlim).mono ?_
  rintro e w1 ⟨rfl, hb⟩
  go_wp2
  go_ret
  exact ⟨rfl, hb⟩
end Go.Proofs.YtlfhkhnhcckajaaGreatDoor

/- The program's tables of int values: Get, Put, Delete, Len, New. Conditions: none beyond those typed. -/
namespace Go.Proofs.YtlfhkhnhcckajaaGreatDoor
open Go.ChangeShapes Go.WideShapes Go.ChangeAt Go.RowKit
set_option linter.unusedVariables false
set_option linter.unusedSimpArgs false
set_option maxRecDepth 100000

/-- The program's table m lies in block g. -/
def PMi : RepM Int := fun col k w g m => GoodM m ∧ ∃ (T : List Int) (seed : Int) (A : Option Addr) (cT b c N : Nat) (t : Tb Int), Mxi col k w g m.n m.l.length N T seed A cT b c (t.map (plOf (0 : Int) (homeT T seed N))) ∧ LP (homeT T seed N) t ∧ RelT t m
section
variable {P : Nat → Prop} {col col' : Col} {w w' W : World} {k g n u N : Nat} {T : List Int} {seed : Int} {A : Option Addr} {cT b c gm bc : Nat} {t : Tb Int} {home : ByteArray → Nat} {s : ByteArray} {m : MSt Int} {v : Int}
theorem PMi.keep (h : PMi col k w g m) (hs : StepC P col w col' w') (hp : ∀ c, Rng k c → ¬ P c) (h0 : ¬ P 0) : PMi col' k w' g m := by
  obtain ⟨hG, T, seed, A, cT, b, c, N, t, M, hL, R⟩ := h
  exact ⟨hG, T, seed, A, cT, b, c, N, t, M.keep hs hp h0, hL, R⟩
theorem Mxi.room (M : Mxi col k w g m.n m.l.length N T seed A cT b c (t.map (plOf (0 : Int) home))) (hG : GoodM m) (hL : LP home t) (R : RelT t m) : (∃ e, Emp t e) ∧ m.l.length < N ∧ N ≤ 16384 ∧ 0 < N ∧ t.length = N := by
  have hN := M.nN
  have hn := M.n1
  have hl := M.len
  rw [List.length_map] at hl
  have h1 := hG.len
  exact ⟨R.room hG hL (by omega), by omega, by omega, by omega, hl⟩
set_option maxHeartbeats 1000000 in
theorem geti_any (H : PMi col k w g m) (ht : Tidy col w) (s : ByteArray) (hs : s.size ≤ 281474976710656) :
    Calls Tryz.prog 52 #[.pointer (some ⟨g, 0, none⟩), .string s] w fun e w' => e = .returned (.tuple #[(fun z : Int => Value.int .i64 z) (getG (0 : Int) m s).1, .bool (getG (0 : Int) m s).2]) ∧ Below w.heap.size w w' := by
  obtain ⟨hG, T, seed, A, cT, b, c, N, t, M, hL, R⟩ := H
  obtain ⟨⟨ef, he⟩, hlN, hN6, hN0, hlen⟩ := M.room hG hL R
  have hHm := homei_any M (s := s) (by omega)
  go_enter Tryz.func52, Tryz.ntmps52
  go_wp2_with fail
  refine hHm.mono ?_
  rintro r w1 ⟨rfl, hb1⟩
  have M1 := M.below ht hb1
  have hFd := findi_any M1 hL he (s := s)
  go_wp2_with fail
  refine hFd.mono ?_
  rintro r w2 ⟨i, yes, rfl, hi, hF, hw⟩
  subst hw
  have x4 := M1.c4
  obtain ⟨hcp, hcm⟩ := M1.cap
  have hiI : (i : Int) < (N : Int) := by omega
  rcases hF with ⟨rfl, v, hv⟩ | ⟨rfl, hE, _, hno⟩
  · have hlk : m.look s = some v := R.yes hv
    obtain ⟨_, _, _, y3, _⟩ := M1.at_ (i := i) (r := plOf (0 : Int) (homeT T seed N) (some (s, v))) (by rw [List.getElem?_map, hv]; rfl)
    have y3' : w1.cell? ⟨b, i * 4 + 3, none⟩ = some ((fun z : Int => Value.int .i64 z) v) := y3
    have HR := Lib.hid (show getG (0 : Int) m s = (v, true) by unfold getG; rw [hlk]; rfl)
    clear y3 hFd hHm M M1 hL he R hv hlk
    go_wp2
    go_ret2
    rw [HR.out]
    exact ⟨rfl, hb1⟩
  · have hlk : m.look s = none := R.off hno
    have hE' : t[i]? = some none := hE
    obtain ⟨_, _, _, y3, _⟩ := M1.at_ (i := i) (r := plOf (0 : Int) (homeT T seed N) none) (by rw [List.getElem?_map, hE']; rfl)
    have y3' : w1.cell? ⟨b, i * 4 + 3, none⟩ = some (.int .i64 0) := y3
    have HR := Lib.hid (show getG (0 : Int) m s = ((0 : Int), false) by unfold getG; rw [hlk]; rfl)
    clear y3 hFd hHm M M1 hL he R hE hE' hno hlk
    go_wp2
    go_ret2
    rw [HR.out]
    exact ⟨rfl, hb1⟩
set_option maxHeartbeats 1000000 in
theorem deli_any (H : PMi col k w g m) (ht : Tidy col w) (s : ByteArray) (hs : s.size ≤ 281474976710656) :
    Calls Tryz.prog 54 #[.pointer (some ⟨g, 0, none⟩), .string s] w fun e w' => e = .returned (.tuple #[(fun z : Int => Value.int .i64 z) (getG (0 : Int) m s).1, .bool (getG (0 : Int) m s).2]) ∧ DidPM PMi col k w g (m.del s) w' := by
  have HP := H
  obtain ⟨hG, T, seed, A, cT, b, c, N, t, M, hL, R⟩ := H
  obtain ⟨⟨ef, he⟩, hlN, hN6, hN0, hlen⟩ := M.room hG hL R
  have hHm := homei_any M (s := s) (by omega)
  go_enter Tryz.func54, Tryz.ntmps54
  go_wp2_with fail
  refine hHm.mono ?_
  rintro r w1 ⟨rfl, hb1⟩
  have M1 := M.below ht hb1
  have ht1 := ht.size hb1.size
  have s1 : StepC (Rng k) col w col w1 := StepC.below ht hb1
  have hFd := findi_any M1 hL he (s := s)
  go_wp2_with fail
  refine hFd.mono ?_
  rintro r w2 ⟨i, yes, rfl, hi, hF, hw⟩
  subst hw
  have x4 := M1.c4
  obtain ⟨hcp, hcm⟩ := M1.cap
  have hiI : (i : Int) < (N : Int) := by omega
  rcases hF with ⟨rfl, v, hv⟩ | ⟨rfl, hE, _, hno⟩
  · have hlk : m.look s = some v := R.yes hv
    obtain ⟨_, _, _, y3, _⟩ := M1.at_ (i := i) (r := plOf (0 : Int) (homeT T seed N) (some (s, v))) (by rw [List.getElem?_map, hv]; rfl)
    have y3' : w1.cell? ⟨b, i * 4 + 3, none⟩ = some ((fun z : Int => Value.int .i64 z) v) := y3
    have HR := Lib.hid (show getG (0 : Int) m s = (v, true) by unfold getG; rw [hlk]; rfl)
    have hdl := del_gone hG hlk
    have hCt := emptyi_any M1 ht1 hL R hG hlN hv
    have HG := Lib.hid (hG.del s)
    have hn := del_n m s
    obtain ⟨u1, hu1⟩ : ∃ u1, (m.del s).l.length = u1 := ⟨_, rfl⟩
    have hw1 : IntKind.i64.wrap ((m.l.length : Int) - 1) = (u1 : Int) := by rw [IntKind.wrap_i64]; omega
    have HU := Lib.hid hu1
    have HNn := Lib.hid hn
    clear y3 hFd hHm M M1 hL he R hv hlk hu1 hdl hn HP
    go_wp2_with fail
    refine hCt.mono ?_
    rintro r w2 ⟨rfl, t2, M2, hL2, R2, s2⟩
    have x3 := M2.c3
    have f3 := M2.box.free 3
    obtain ⟨M3, s3⟩ := M2.used s2.tidy u1
    have HD := Lib.hid (show DidPM PMi col k w g (m.del s) (w2.setCell ⟨g, 3, none⟩ (.int .i64 (u1 : Int))) from
      ⟨col, ⟨HG.out, T, seed, A, cT, b, c, N, t2, by rw [HNn.out, HU.out]; exact M3, hL2, R2⟩, (s1.trans (s2.mono fun _ => k1_rng)).trans (s3.mono fun _ => k0_rng)⟩)
    clear M2 M3 hCt hL2 R2
    go_wp2
    go_ret2
    rw [HR.out]
    exact ⟨rfl, HD.out⟩
  · have hlk : m.look s = none := R.off hno
    have HR := Lib.hid (show getG (0 : Int) m s = ((0 : Int), false) by unfold getG; rw [hlk]; rfl)
    have HM := Lib.hid (del_not hlk)
    have HD := Lib.hid (show DidPM PMi col k w g m w1 from ⟨col, HP.keep (P := fun _ => False) (StepC.below ht hb1) (fun _ _ h => h) (fun h => h), s1⟩)
    clear hFd hHm M M1 hL he R hE hno hlk HP
    go_wp2
    go_ret2
    rw [HR.out, HM.out]
    exact ⟨rfl, HD.out⟩
theorem Mxi.ready (h : Mxi col k w g n u N T seed A cT b c (t.map (plOf (0 : Int) home))) (ht : Tidy col w) {i : Nat} {y : Option (ByteArray × Int)} (hy : t[i]? = some y) (r : Pl Int) :
    w.cell? ⟨g, 4, none⟩ = some (.slice (some ⟨b, 0, none⟩) N c) ∧ w.cell? ⟨b, i * 4, none⟩ = some (.bool (plOf (0 : Int) home y).1) ∧ w.cell? ⟨b, i * 4 + 1, none⟩ = some (.int .i64 (plOf (0 : Int) home y).2.1) ∧ w.cell? ⟨b, i * 4 + 2, none⟩ = some (.string (plOf (0 : Int) home y).2.2.1) ∧ w.cell? ⟨b, i * 4 + 3, none⟩ = some ((fun z : Int => Value.int .i64 z) (plOf (0 : Int) home y).2.2.2) ∧
    w.frozen? ⟨b, i * 4, none⟩ = false ∧ w.frozen? ⟨b, i * 4 + 1, none⟩ = false ∧ w.frozen? ⟨b, i * 4 + 2, none⟩ = false ∧ w.frozen? ⟨b, i * 4 + 3, none⟩ = false := by
  obtain ⟨y0, y1, y2, y3, fz⟩ := h.at_ (i := i) (r := plOf (0 : Int) home y) (by rw [List.getElem?_map, hy]; rfl)
  exact ⟨h.c4, y0, y1, y2, y3, fz _, fz _, fz _, fz _⟩
set_option maxHeartbeats 4000000 in
theorem puti_any (H : PMi col k w g m) (ht : Tidy col w) (s : ByteArray) (v : Int) (hs : s.size ≤ 281474976710656) :
    Calls Tryz.prog 58 #[.pointer (some ⟨g, 0, none⟩), .string s, (fun z : Int => Value.int .i64 z) v] w fun e w' => e = .returned (.int .i64 (m.put s v).1) ∧ DidPM PMi col k w g (m.put s v).2 w' := by
  have HP := H
  obtain ⟨hG, T, seed, A, cT, b, c, N, t, M, hL, R⟩ := H
  obtain ⟨⟨ef, he⟩, hlN, hN6, hN0, hlen⟩ := M.room hG hL R
  have hHm := homei_any M (s := s) (by omega)
  go_enter Tryz.func58, Tryz.ntmps58
  go_wp2_with fail
  refine hHm.mono ?_
  rintro r w1 ⟨rfl, hb1⟩
  have M1 := M.below ht hb1
  have ht1 := ht.size hb1.size
  have s1 : StepC (Rng k) col w col w1 := StepC.below ht hb1
  have hFd := findi_any M1 hL he (s := s)
  go_wp2_with fail
  refine hFd.mono ?_
  rintro r w2 ⟨i, yes, rfl, hi, hF, hw⟩
  subst hw
  obtain ⟨hcp, hcm⟩ := M1.cap
  have hiI : (i : Int) < (N : Int) := by omega
  rcases hF with ⟨rfl, v0, hv⟩ | ⟨rfl, hE, hpath, hno⟩
  · have hlk : m.look s = some v0 := R.yes hv
    obtain ⟨x4, _, _, _, y3, _, _, _, f3⟩ := M1.ready ht1 hv (plOf (0 : Int) (homeT T seed N) (some (s, v)))
    have y3' : w1.cell? ⟨b, i * 4 + 3, none⟩ = some ((fun z : Int => Value.int .i64 z) v0) := y3
    have hold := put_old hlk v
    have HD := Lib.hid (show DidPM PMi col k w g (m.put s v).2 (w1.setCell ⟨b, i * 4 + 3, none⟩ ((fun z : Int => Value.int .i64 z) v)) from by
      obtain ⟨M2, s2⟩ := M1.val ht1 (i := i) (r := plOf (0 : Int) (homeT T seed N) (some (s, v0))) (by rw [List.getElem?_map, hv]; rfl) v
      refine ⟨col, ⟨hG.put s v, T, seed, A, cT, b, c, N, t.set i (some (s, v)), ?_, hL.val hv v, R.val hG hL hv v⟩, s1.trans (s2.mono fun _ => k1_rng)⟩
      rw [put_n, hold.2, List.map_set]
      exact M2)
    have HE := Lib.hid hold.1
    clear y3 hFd hHm M M1 hL he R hv hlk hold HP hG
    go_wp2
    go_ret
    rw [HE.out]
    exact ⟨rfl, HD.out⟩
  · have hlk : m.look s = none := R.off hno
    have hE' : t[i]? = some none := hE
    have x3 := M1.c3
    have x2 := M1.c2
    have hln := hG.len
    have hn8 := hG.n8
    by_cases hfull : m.l.length = m.n
    · have hfI : ((m.l.length : Int) == (m.n : Int)) = true := beq_iff_eq.2 (by omega)
      have HE := Lib.hid (put_no hlk hfull v)
      have HD := Lib.hid (fun q => show DidPM PMi col k w g m (w1.drewN q) from ⟨col, HP.keep (P := fun _ => False) (StepC.below ht (below_drewN hb1 q)) (fun _ _ h => h) (fun h => h), StepC.below ht (below_drewN hb1 q)⟩)
      clear hFd hHm M M1 hL he R hE hE' hno hlk HP hG hpath hln hfull
      go_wp2
      go_quiet (fail)
      go_wp2
      go_ret
      rw [HE.out]
      exact ⟨rfl, HD.out _⟩
    · have hfI : ((m.l.length : Int) == (m.n : Int)) = false := beq_false_of_ne (by omega)
      have hfr := put_fresh hlk hfull v
      have HE := Lib.hid hfr.1
      obtain ⟨u0, hu0⟩ : ∃ u0, m.l.length = u0 := ⟨_, rfl⟩
      have hu1 : IntKind.i64.wrap ((u0 : Int) + 1) = ((u0 + 1 : Nat) : Int) := by rw [IntKind.wrap_i64]; omega
      have HA := Lib.hid (fun (W : World) (MW : Mxi col k W g m.n u0 N T seed A cT b c (t.map (plOf (0 : Int) (homeT T seed N)))) (sW : StepC (Rng k) col w col W) => (show
          (((((W.setCell ⟨b, i * 4, none⟩ (.bool true)).setCell ⟨b, i * 4 + 1, none⟩ (.int .i64 (homeT T seed N s : Int))).setCell ⟨b, i * 4 + 2, none⟩ (.string s)).setCell ⟨b, i * 4 + 3, none⟩ ((fun z : Int => Value.int .i64 z) v)).cell? ⟨g, 3, none⟩ = some (.int .i64 (u0 : Int)) ∧
          ((((W.setCell ⟨b, i * 4, none⟩ (.bool true)).setCell ⟨b, i * 4 + 1, none⟩ (.int .i64 (homeT T seed N s : Int))).setCell ⟨b, i * 4 + 2, none⟩ (.string s)).setCell ⟨b, i * 4 + 3, none⟩ ((fun z : Int => Value.int .i64 z) v)).cell? ⟨g, 4, none⟩ = some (.slice (some ⟨b, 0, none⟩) N c) ∧
          ((((W.setCell ⟨b, i * 4, none⟩ (.bool true)).setCell ⟨b, i * 4 + 1, none⟩ (.int .i64 (homeT T seed N s : Int))).setCell ⟨b, i * 4 + 2, none⟩ (.string s)).setCell ⟨b, i * 4 + 3, none⟩ ((fun z : Int => Value.int .i64 z) v)).frozen? ⟨g, 3, none⟩ = false ∧
          DidPM PMi col k w g (m.put s v).2 (((((W.setCell ⟨b, i * 4, none⟩ (.bool true)).setCell ⟨b, i * 4 + 1, none⟩ (.int .i64 (homeT T seed N s : Int))).setCell ⟨b, i * 4 + 2, none⟩ (.string s)).setCell ⟨b, i * 4 + 3, none⟩ ((fun z : Int => Value.int .i64 z) v)).setCell ⟨g, 3, none⟩ (.int .i64 ((u0 + 1 : Nat) : Int)))) from by
        obtain ⟨M2, s2⟩ := MW.put sW.tidy hi (plOf (0 : Int) (homeT T seed N) (some (s, v)))
        obtain ⟨M3, s3⟩ := M2.used s2.tidy (u0 + 1)
        refine ⟨M2.c3, M2.c4, M2.box.free 3, col, ⟨hG.put s v, T, seed, A, cT, b, c, N, t.set i (some (s, v)), ?_, hL.add hE hpath hno v, R.add hG hE hlk hfull v⟩, (sW.trans (s2.mono fun _ => k1_rng)).trans (s3.mono fun _ => k0_rng)⟩
        rw [put_n, hfr.2, hu0, List.map_set]
        exact M3))
      have HRd := Lib.hid (fun (W : World) (MW : Mxi col k W g m.n u0 N T seed A cT b c (t.map (plOf (0 : Int) (homeT T seed N)))) (tW : Tidy col W) => MW.ready tW hE' (plOf (0 : Int) (homeT T seed N) none))
      rw [hu0] at M1 x3 hfI
      have x4 := M1.c4
      have ht1d := ht1.size (w' := w1.drew) (Nat.le_refl _)
      have HM := Lib.hid M1
      have HS1 := Lib.hid s1
      have HT1 := Lib.hid ht1
      clear hFd hHm M M1 hL he R hE hE' hno hlk HP hG hpath hln hfull hfr hlN
      go_wp2
      go_quiet (fail)
      go_wp2
      go_region_held3 (fun w' => w'.cell? ⟨g, 4, none⟩ = some (.slice (some ⟨b, 0, none⟩) N c)) (first | exact x4 | assumption) ((go_at_call 60; refine (clone_str s _ hs).mono ?_; rintro r w2 ⟨rfl, hb2⟩; have B2 : Below w1.heap.size w1 w2 := ⟨hb2.os, hb2.tape, hb2.output, hb2.size, hb2.block⟩; have S2 := HS1.out.trans (StepC.below HT1.out B2); have M2 := HM.out.below HT1.out B2; obtain ⟨q4, y0, y1, y2, y3, f0, f1, f2, f3⟩ := HRd.out w2 M2 S2.tidy; obtain ⟨z3, z4, zf, hD⟩ := HA.out w2 M2 S2; have HD := Lib.hid hD; clear hD M2 S2 hb2 B2))
      all_goals
        clear HA HRd x3 x2 x4
        go_wp2
        go_ret
        rw [HE.out]
        exact ⟨rfl, HD.out⟩
end
end Go.Proofs.YtlfhkhnhcckajaaGreatDoor
