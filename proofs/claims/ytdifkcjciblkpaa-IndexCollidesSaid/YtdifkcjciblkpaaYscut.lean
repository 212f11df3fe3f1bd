/- The program's tables of string values: a deletion, which moves later elements back. Conditions: none beyond those typed. -/
import Derived.Test.YtdifkcjciblkpaaYsfind
import Derived.Deep.CutRange
namespace Go.Proofs.Ytdifkcjciblkpaa
open Go.ChangeShapes Go.WideShapes Go.ChangeAt Go.RowKit
set_option linter.unusedVariables false
set_option linter.unusedSimpArgs false
set_option maxRecDepth 100000

section
variable {P : Nat → Prop} {col col' : Col} {w w' W W' : World} {k g n u N : Nat} {T : List Int} {seed : Int} {A : Option Addr} {cT b c : Nat} {t t0 : Tb ByteArray} {home : ByteArray → Nat} {s kk : ByteArray} {m : MSt ByteArray} {e hh j i0 : Nat} {x : Option (ByteArray × ByteArray)} {v : ByteArray}
/-- Amid a deletion: the gap at hh still holds what was there. -/
structure CutAts (col : Col) (k : Nat) (w : World) (g n u N : Nat) (T : List Int) (seed : Int) (A : Option Addr) (cT b c : Nat) (home : ByteArray → Nat) (m : MSt ByteArray) (e : Nat) (W : World) (hh j : Nat) (t : Tb ByteArray) (x : Option (ByteArray × ByteArray)) : Prop where
  len : t.length = N
  lph : LPh home t hh j
  rel : RelT t m
  emp : Emp t e
  ne : e ≠ hh
  dd : dst N hh j < dst N hh e
  mx : Mxs col k W g n u N T seed A cT b c ((t.set hh x).map (plOf (⟨#[]⟩ : ByteArray) home))
  st : StepC (fun d => d = k + 1) col w col W
theorem CutAts.facts (h : CutAts col k w g n u N T seed A cT b c home m e W hh j t x) : hh < N ∧ j < N ∧ e < N ∧ (j + 1) % N < N ∧ (j + 1) % N ≠ hh ∧ dst N hh ((j + 1) % N) = dst N hh j + 1 ∧ ∀ y, t[(j + 1) % N]? = some y → ((t.set hh x).map (plOf (⟨#[]⟩ : ByteArray) home))[(j + 1) % N]? = some (plOf (⟨#[]⟩ : ByteArray) home y) := by
  have hl := h.len
  have h1 : hh < N := by rw [← hl]; exact (List.getElem?_eq_some_iff.1 h.lph.gap).1
  have h2 : j < N := by rw [← hl]; exact h.lph.jl
  have h3 : e < N := by rw [← hl]; exact (List.getElem?_eq_some_iff.1 h.emp).1
  have h4 : (j + 1) % N < N := next_lt (by omega) j
  have h5 := dst_next h1 h2
  have h6 := dst_lt h1 h3
  have h7 := h.dd
  rw [if_neg (by omega)] at h5
  have h8 : (j + 1) % N ≠ hh := fun e' => by rw [e', dst_self] at h5; omega
  refine ⟨h1, h2, h3, h4, h8, h5, fun y hy => ?_⟩
  rw [List.getElem?_map, List.getElem?_set_ne (fun e' => h8 e'.symm), hy]; rfl
theorem CutAts.stay (h : CutAts col k w g n u N T seed A cT b c home m e W hh j t x) (ho : t[(j + 1) % N]? = some (some (kk, v))) (hno : ¬ dst N hh ((j + 1) % N) ≤ dst N (home kk) ((j + 1) % N)) : CutAts col k w g n u N T seed A cT b c home m e W hh ((j + 1) % N) t x := by
  obtain ⟨h1, h2, h3, h4, h5, h6, _⟩ := h.facts
  have hl := h.len
  have hm := h.lph.hm kk
  have hdd := h.dd
  have h7 := dst_lt h1 h3
  have hp := h.lph
  rw [hl] at hm
  have hs : LPh home t hh ((j + 1) % N) := by
    have := hp.stay (k := kk) (v := v) (by rw [hl]; omega) (by rw [hl]; exact ho) (by rw [hl]; exact fun hlt => hno ((dst_on hm h1 h4 h5.symm).2 hlt))
    rwa [hl] at this
  refine ⟨hl, hs, h.rel, h.emp, h.ne, ?_, h.mx, h.st⟩
  rcases Nat.lt_or_ge (dst N hh ((j + 1) % N)) (dst N hh e) with h8 | h8
  · exact h8
  · have e' := dst_inj h1 h4 h3 (by omega)
    have := h.emp
    unfold Emp at this
    rw [← e', ho] at this; cases this
theorem CutAts.move (h : CutAts col k w g n u N T seed A cT b c home m e W hh j t x) (ho : t[(j + 1) % N]? = some (some (kk, v))) (hyes : dst N hh ((j + 1) % N) ≤ dst N (home kk) ((j + 1) % N))
    (hW : Mxs col k W' g n u N T seed A cT b c (((t.set hh x).map (plOf (⟨#[]⟩ : ByteArray) home)).set hh (plOf (⟨#[]⟩ : ByteArray) home (some (kk, v))))) (hS : StepC (fun d => d = k + 1) col W col W') :
    ∃ t2 x2, CutAts col k w g n u N T seed A cT b c home m e W' ((j + 1) % N) ((j + 1) % N) t2 x2 := by
  obtain ⟨h1, h2, h3, h4, h5, h6, _⟩ := h.facts
  have hl := h.len
  have hm := h.lph.hm kk
  have hdd := h.dd
  have h7 := dst_lt h1 h3
  have hp := h.lph
  rw [hl] at hm
  have hei : e ≠ (j + 1) % N := fun e' => by
    have := h.emp
    unfold Emp at this
    rw [e', ho] at this; cases this
  have hhl : hh < t.length := by omega
  have hil : (j + 1) % N < (t.set hh (some (kk, v))).length := by rw [List.length_set]; omega
  have hs : LPh home ((t.set hh (some (kk, v))).set ((j + 1) % N) none) ((j + 1) % N) ((j + 1) % N) := by
    have := hp.move (k := kk) (v := v) (by rw [hl]; omega) (by rw [hl]; exact ho) (by rw [hl]; exact (dst_on hm h1 h4 h5.symm).1 hyes)
    rwa [hl] at this
  refine ⟨_, some (kk, v), by simp [hl], hs, h.rel.move h.lph.gap ho, ?_, hei, by rw [dst_self]; exact dst_pos h4 h3 hei.symm, ?_, h.st.trans hS⟩
  · unfold Emp
    rw [tb_set_at hil, if_neg hei.symm, tb_set_at hhl, if_neg h.ne.symm]; exact h.emp
  · have e1 : ((t.set hh (some (kk, v))).set ((j + 1) % N) none).set ((j + 1) % N) (some (kk, v)) = t.set hh (some (kk, v)) := by
      rw [List.set_set]
      exact list_set_self (by rw [tb_set_at hhl, if_neg h5.symm]; exact ho)
    rw [e1]
    rw [← List.map_set, List.set_set] at hW
    exact hW
/-- What a deletion leaves. -/
def CutOuts (col : Col) (k : Nat) (w : World) (g n u N : Nat) (T : List Int) (seed : Int) (A : Option Addr) (cT b c : Nat) (home : ByteArray → Nat) (m : MSt ByteArray) (r : Ending) (w' : World) : Prop :=
  r = .returned (.tuple #[]) ∧ ∃ t, Mxs col k w' g n u N T seed A cT b c (t.map (plOf (⟨#[]⟩ : ByteArray) home)) ∧ LP home t ∧ RelT t m ∧ StepC (fun d => d = k + 1) col w col w'
theorem CutAts.stop (h : CutAts col k w g n u N T seed A cT b c home m e W hh j t x) (ho : Emp t ((j + 1) % N))
    (hW : Mxs col k W' g n u N T seed A cT b c (((t.set hh x).map (plOf (⟨#[]⟩ : ByteArray) home)).set hh (plOf (⟨#[]⟩ : ByteArray) home none))) (hS : StepC (fun d => d = k + 1) col W col W') : CutOuts col k w g n u N T seed A cT b c home m (.returned (.tuple #[])) W' := by
  have hl := h.len
  refine ⟨rfl, t, ?_, h.lph.stop (by rw [hl]; exact ho), h.rel, h.st.trans hS⟩
  rw [← List.map_set, List.set_set, list_set_self h.lph.gap] at hW
  exact hW
set_option maxHeartbeats 4000000 in
theorem emptys_any (h : Mxs col k w g n u N T seed A cT b c (t0.map (plOf (⟨#[]⟩ : ByteArray) home))) (htd : Tidy col w) (hL : LP home t0) (R : RelT t0 m) (G : GoodM m) (hmn : m.l.length < N) (hi : t0[i0]? = some (some (s, v))) :
    Calls Try.prog 42 #[.pointer (some ⟨g, 0, none⟩), .int .i64 (i0 : Int)] w (CutOuts col k w g n u N T seed A cT b c home (m.del s)) := by
  have hN := h.nN
  have hn := h.n1
  have hlen : t0.length = N := by have := h.len; simpa using this
  have hil : i0 < t0.length := (List.getElem?_eq_some_iff.1 hi).1
  have hi0 : i0 < N := by omega
  obtain ⟨e, he⟩ := R.room G hL (by omega)
  have heN : e < N := by rw [← hlen]; exact (List.getElem?_eq_some_iff.1 he).1
  have hne : e ≠ i0 := fun e' => by subst e'; unfold Emp at he; rw [hi] at he; cases he
  have HNx := fun r hr => nexts_any h hi0 (r := r) hr
  have hrow : (t0.set i0 none).set i0 (some (s, v)) = t0 := by rw [List.set_set]; exact list_set_self hi
  have C0 : CutAts col k w g n u N T seed A cT b c home (m.del s) e w i0 i0 (t0.set i0 none) (some (s, v)) :=
    ⟨by rw [List.length_set]; exact hlen, hL.cut ⟨_, hi⟩, R.cut G hL hi, by unfold Emp; rw [tb_set_at hil, if_neg hne.symm]; exact he, hne, by rw [dst_self]; exact dst_pos hi0 heN hne.symm, by rw [hrow]; exact h, StepC.refl htd⟩
  have hN6 : N ≤ 16384 := by omega
  have hN0 : 0 < N := by omega
  obtain ⟨i1, hi1⟩ : ∃ i1, (i0 + 1) % N = i1 := ⟨_, rfl⟩
  replace HNx := HNx i1 hi1
  have HI1 := Lib.hid hi1
  clear hN h hL R G hmn hi hlen hil hrow he hi1
  go_enter Try.func42, Try.ntmps42
  go_wp2_with fail
  refine HNx.mono ?_
  rintro r w1 ⟨rfl, hw⟩
  subst hw
  go_wp2
  go_loopw [1, 4] (fun hv iv wr => ∃ (hh j i1 : Nat) (t : Tb ByteArray) (x : Option (ByteArray × ByteArray)), hv = .int .i64 (hh : Int) ∧ iv = .int .i64 (i1 : Int) ∧ i1 = (j + 1) % N ∧ CutAts col k w g n u N T seed A cT b c home (m.del s) e wr hh j t x) (fun _ iv _ => dst N (intOf iv).toNat e)
  case atStart => exact ⟨i0, i0, i1, _, _, rfl, rfl, HI1.out.symm, C0⟩
  case round =>
    clear C0 HNx hi0 hne HI1
    obtain ⟨hh, j, i1, t, x, rfl, rfl, hi1, C⟩ := hrel
    obtain ⟨h1, h2, h3, h4, h5, h6, h7⟩ := C.facts
    have M := C.mx
    have x4 := M.c4
    obtain ⟨hcp, hcm⟩ := M.cap
    have tdr := C.st.tidy
    have hhl : hh < t.length := by rw [C.len]; exact h1
    obtain ⟨z0, z1, z2, z3, fz⟩ := M.at_ (i := hh) (r := plOf (⟨#[]⟩ : ByteArray) home x) (by rw [List.getElem?_map, tb_set_at hhl, if_pos rfl]; rfl)
    have hiI : (hh : Int) < (N : Int) := by omega
    have f0 := fz (hh * 4)
    have f1 := fz (hh * 4 + 1)
    have f2 := fz (hh * 4 + 2)
    have f3 := fz (hh * 4 + 3)
    have hlt : (j + 1) % N < t.length := by rw [C.len]; exact h4
    have hst := fun hne => dst_step (N := N) (e := e) h4 h3 hne
    have HI := Lib.hid hi1
    rw [← hi1] at h4 h5 h6 h7 hlt hst
    have h4I : (i1 : Int) < (N : Int) := by omega
    rcases occ_or hlt with ⟨⟨kk, v1⟩, ho⟩ | hem
    · obtain ⟨y0, y1, y2, y3, _⟩ := M.at_ (i := i1) (r := plOf (⟨#[]⟩ : ByteArray) home (some (kk, v1))) (h7 _ ho)
      have hie : i1 ≠ e := fun e' => by
        have := C.emp
        unfold Emp at this
        rw [← e', ho] at this; cases this
      have hkN : home kk < N := by rw [← C.len]; exact C.lph.hm kk
      have y0' : wr.cell? ⟨b, i1 * 4, none⟩ = some (.bool true) := y0
      have y1' : wr.cell? ⟨b, i1 * 4 + 1, none⟩ = some (.int .i64 (home kk : Int)) := y1
      have y2' : wr.cell? ⟨b, i1 * 4 + 2, none⟩ = some (.string kk) := y2
      have y3' : wr.cell? ⟨b, i1 * 4 + 3, none⟩ = some ((fun z : ByteArray => Value.string z) v1) := y3
      have S1 := Lib.hid (stepss_any M hkN h4)
      have S2 := Lib.hid (fun q => stepss_any (M.drewN tdr q) h1 h4)
      have hms := hst hie
      obtain ⟨i2, hi2⟩ : ∃ i2, (i1 + 1) % N = i2 := ⟨_, rfl⟩
      rw [hi2] at hms
      have hms2 := Lib.hid (show dst N i2 e < dst N i1 e by omega)
      have HI2 := Lib.hid hi2
      have HX := Lib.hid (fun (hge : dst N hh i1 ≤ dst N (home kk) i1) (q : Nat) => (show ∃ t2 x2, CutAts col k w g n u N T seed A cT b c home (m.del s) e (((((wr.drewN q).setCell ⟨b, hh * 4, none⟩ (.bool true)).setCell ⟨b, hh * 4 + 1, none⟩ (.int .i64 (home kk : Int))).setCell ⟨b, hh * 4 + 2, none⟩ (.string kk)).setCell ⟨b, hh * 4 + 3, none⟩ ((fun z : ByteArray => Value.string z) v1)) i1 i1 t2 x2 from by
        obtain ⟨M2, s2⟩ := (M.drewN tdr q).put (tdr.size (Nat.le_refl _)) h1 (plOf (⟨#[]⟩ : ByteArray) home (some (kk, v1)))
        have := C.move (kk := kk) (v := v1) (by rw [← hi1]; exact ho) (by rw [← hi1]; exact hge) M2 ((StepC.below tdr (below_drewN (Below.refl _ _) q)).trans s2)
        rwa [← hi1] at this))
      have HY := Lib.hid (fun (hge : ¬ dst N hh i1 ≤ dst N (home kk) i1) (q : Nat) => (show CutAts col k w g n u N T seed A cT b c home (m.del s) e (wr.drewN q) hh i1 t x from by
        have := C.stay (kk := kk) (v := v1) (by rw [← hi1]; exact ho) (by rw [← hi1]; exact hge)
        rw [← hi1] at this
        exact ⟨this.len, this.lph, this.rel, this.emp, this.ne, this.dd, M.drewN tdr q, C.st.trans (StepC.below tdr (below_drewN (Below.refl _ _) q))⟩))
      clear y0 y1 y2 y3 C ho hie hms hst h6 h7 h5 hi1 hi2
      by_cases hge : dst N hh i1 ≤ dst N (home kk) i1
      · have HXg := Lib.hid (HX.out hge)
        have HN2 := Lib.hid (fun q => (HXg.out q).elim fun t2 h => h.elim fun x2 C2 => nexts_any C2.mx h4 HI2.out)
        clear HY HX
        generalize dst N hh i1 = d2 at *
        generalize dst N (home kk) i1 = d1 at *
        have hgI : (d2 : Int) ≤ (d1 : Int) := by omega
        clear hge
        go_wp2_with fail
        refine S1.out.mono ?_
        rintro r w2 ⟨rfl, jq, rfl⟩
        go_wp2_with fail
        refine (S2.out _).mono ?_
        rintro r w2 ⟨rfl, jq2, rfl⟩
        clear S1 S2
        go_wp2
        go_region
        go_wp2_with fail
        refine (HN2.out _).mono ?_
        rintro r w3 ⟨rfl, hw⟩
        subst hw
        go_wp2
        go_roundw
        case rel => exact (HXg.out _).elim fun t2 h => h.elim fun x2 C2 => ⟨i1, i1, i2, t2, x2, rfl, rfl, HI2.out.symm, C2⟩
        case measure => simpa [intOf] using hms2.out
      · have HYg := Lib.hid (HY.out hge)
        clear HX HY
        generalize dst N hh i1 = d2 at *
        generalize dst N (home kk) i1 = d1 at *
        have hgI : ¬ (d2 : Int) ≤ (d1 : Int) := by omega
        clear hge
        go_wp2_with fail
        refine S1.out.mono ?_
        rintro r w2 ⟨rfl, jq, rfl⟩
        go_wp2_with fail
        refine (S2.out _).mono ?_
        rintro r w2 ⟨rfl, jq2, rfl⟩
        clear S1 S2
        have MD := M.drewN tdr (jq + jq2)
        go_wp2_with fail
        refine (nexts_any MD h4 HI2.out).mono ?_
        rintro r w3 ⟨rfl, hw⟩
        subst hw
        go_wp2
        go_roundw
        case rel => exact ⟨hh, i1, i2, t, x, rfl, rfl, HI2.out.symm, HYg.out _⟩
        case measure => simpa [intOf] using hms2.out
    · have hem' : t[i1]? = some none := hem
      obtain ⟨y0, _⟩ := M.at_ (i := i1) (r := plOf (⟨#[]⟩ : ByteArray) home none) (h7 _ hem')
      have y0' : wr.cell? ⟨b, i1 * 4, none⟩ = some (.bool false) := y0
      have HX := Lib.hid (show CutOuts col k w g n u N T seed A cT b c home (m.del s) (.returned (.tuple #[])) ((((wr.setCell ⟨b, hh * 4, none⟩ (.bool false)).setCell ⟨b, hh * 4 + 1, none⟩ (.int .i64 0)).setCell ⟨b, hh * 4 + 2, none⟩ (.string ⟨#[]⟩)).setCell ⟨b, hh * 4 + 3, none⟩ (.string ⟨#[]⟩)) from by
        obtain ⟨M2, s2⟩ := M.put tdr h1 (plOf (⟨#[]⟩ : ByteArray) home none)
        exact C.stop (by rw [← hi1]; exact hem) M2 s2)
      clear y0 C hem hem' hst h6 h7 h5 hi1
      go_wp2
      go_end0
      exact HX.out
end
end Go.Proofs.Ytdifkcjciblkpaa
