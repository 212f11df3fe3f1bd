/- The specified pool in memory: a number is given to a key (its three rows). Conditions: none beyond those typed. -/
import Derived.Test.YtenchaifnfgijaaQrapp
namespace Go.Proofs.Ytenchaifnfgijaa
open Go.ChangeShapes Go.WideShapes Go.ChangeAt Go.RowKit
set_option linter.unusedVariables false
set_option linter.unusedSimpArgs false
set_option maxRecDepth 100000

section
variable {col : Col} {w : World} {k g ga : Nat} {q : PSt} {bK cK bU cU bH cH : Nat} {s : ByteArray} {hd : Hd} {i : Nat}
theorem ks_set (e : List PEn) (i : Nat) (y : PEn) : ksR (e.set i y) = (ksR e).set (i + 1) y.k := by simp [ksR, List.map_set]
theorem us_set (e : List PEn) (i : Nat) (y : PEn) : usR (e.set i y) = (usR e).set (i + 1) (y.u : Int) := by simp [usR, List.map_set]
theorem hs_set (e : List PEn) (i : Nat) (y : PEn) : hsR (e.set i y) = (hsR e).set (i + 1) y.h := by simp [hsR, List.map_set]
/-- The world behind the three stores. -/
def setEnW (w : World) (bK bU bH i : Nat) (s : ByteArray) (hd : Hd) : World :=
  ((((w.setCell ⟨bK, i + 1, none⟩ (.string s)).setCell ⟨bU, i + 1, none⟩ (.int .i64 1)).setCell ⟨bH, (i + 1) * 3, none⟩ (.int .i64 hd.1)).setCell ⟨bH, (i + 1) * 3 + 1, none⟩ (.int .i64 hd.2.1)).setCell ⟨bH, (i + 1) * 3 + 2, none⟩ (.int .i64 hd.2.2)
theorem RefQB.setEn (h : RefQB col k w g ga q bK cK bU cU bH cH) (ht : Tidy col w) (hi : i < q.e.length) (s : ByteArray) (hd : Hd) (t : Nat) :
    RefQB col k (setEnW w bK bU bH i s hd) g ga { q with e := q.e.set i ⟨s, 1, hd⟩, t := t } bK cK bU cU bH cH ∧ StepC (Rng k) col w col (setEnW w bK bU bH i s hd) := by
  obtain ⟨y, hy⟩ : ∃ y, q.e[i]? = some y := ⟨_, List.getElem?_eq_getElem hi⟩
  have eK : (ksR q.e)[i + 1]? = some y.k := by simp [ksR, hy]
  have eU : (usR q.e)[i + 1]? = some (y.u : Int) := by simp [usR, hy]
  have eH : (hsR q.e)[i + 1]? = some y.h := by simp [hsR, hy]
  obtain ⟨y1, y2, y3⟩ := y
  obtain ⟨a1, a2, a3⟩ := y3
  obtain ⟨d1, d2, d3⟩ := hd
  have s1 : StepC (fun c => c = k + 1) col w col _ := StepC.set ht (a := ⟨bK, i + 1, none⟩) h.ks.col.of (.string s)
  have r1 := h.ks.set (j := i + 1) (i := 0) (a' := s) (u := .string s) eK (by simp [kT]) rfl
  rw [show (i + 1) * kT.k + 0 = i + 1 by simp [kT]] at r1
  have u1 := h.us.keep s1 (by omega)
  have s2 : StepC (fun c => c = k + 2) col _ col _ := StepC.set s1.tidy (a := ⟨bU, i + 1, none⟩) u1.col.of (.int .i64 1)
  have r2 := u1.set (j := i + 1) (i := 0) (a' := (1 : Int)) (u := .int .i64 1) eU K_one rfl
  rw [show (i + 1) * kI.k + 0 = i + 1 by simp [kI]] at r2
  have v1 := (h.hs.keep s1 (by omega)).keep s2 (by omega)
  have s3 : StepC (fun c => c = k + 3) col _ col _ := StepC.set s2.tidy (a := ⟨bH, (i + 1) * 3, none⟩) v1.col.of (.int .i64 d1)
  have v2 := v1.set (j := i + 1) (i := 0) (a' := ((d1, a2, a3) : Hd)) (u := .int .i64 d1) eH (by simp [kH]) rfl
  have s4 : StepC (fun c => c = k + 3) col _ col _ := StepC.set s3.tidy (a := ⟨bH, (i + 1) * 3 + 1, none⟩) v2.col.of (.int .i64 d2)
  have hl : i + 1 < (hsR q.e).length := by simp [hsR]; omega
  have v3 := v2.set (j := i + 1) (i := 1) (a' := ((d1, d2, a3) : Hd)) (u := .int .i64 d2) (List.getElem?_set_self hl) (by simp [kH]) rfl
  have s5 : StepC (fun c => c = k + 3) col _ col _ := StepC.set s4.tidy (a := ⟨bH, (i + 1) * 3 + 2, none⟩) v3.col.of (.int .i64 d3)
  have v4 := v3.set (j := i + 1) (i := 2) (a' := ((d1, d2, d3) : Hd)) (u := .int .i64 d3) (List.getElem?_set_self (by simpa using hl)) (by simp [kH]) rfl
  rw [List.set_set, List.set_set] at v4
  have hlen : (q.e.set i ⟨s, 1, (d1, d2, d3)⟩).length = q.e.length := by simp
  have hs2 := (s3.trans s4).trans s5
  refine ⟨⟨?_, ?_, ?_, ?_, h.k1⟩, ((s1.mono (P' := Rng k) fun c e => ⟨by omega, by omega⟩).trans (s2.mono fun c e => ⟨by omega, by omega⟩)).trans (hs2.mono fun c e => ⟨by omega, by omega⟩)⟩
  · simp only [hlen]; exact ((h.box.keep s1 (by omega)).keep s2 (by omega)).keep hs2 (by omega)
  · simp only [hlen, ks_set]; exact (r1.keep s2 (by omega)).keep hs2 (by omega)
  · simp only [hlen, us_set]; exact r2.keep hs2 (by omega)
  · simp only [hlen, hs_set]; exact v4
/-- What the statement loads. -/
theorem RefQB.s0 {bX : Nat} {a b c : Value} {ty : TypeId} (h : RefQB col k w g ga q bK cK bU cU bH cH) (B : BoxC col w bX 0 #[a, b, c] ty) :
    w.cell? ⟨g, 2, none⟩ = some (.slice (some ⟨bK, 0, none⟩) (q.e.length + 1) cK) ∧ w.cell? ⟨g, 3, none⟩ = some (.slice (some ⟨bU, 0, none⟩) (q.e.length + 1) cU) ∧ w.cell? ⟨g, 4, none⟩ = some (.slice (some ⟨bH, 0, none⟩) (q.e.length + 1) cH) ∧ w.cell? ⟨bX, 0, none⟩ = some a ∧ w.cell? ⟨bX, 1, none⟩ = some b ∧ w.cell? ⟨bX, 2, none⟩ = some c :=
  ⟨h.c2, h.c3, h.c4, B.cell 0 rfl, B.cell 1 rfl, B.cell 2 rfl⟩
theorem RefQB.s1 {bX n : Nat} {a b c v : Value} {ty : TypeId} (h : RefQB col k w g ga q bK cK bU cU bH cH) (ht : Tidy col w) (B : BoxC col w bX 0 #[a, b, c] ty) (hn : q.e.length + 1 = n) :
    (w.setCell ⟨bK, i, none⟩ v).cell? ⟨g, 2, none⟩ = some (.slice (some ⟨bK, 0, none⟩) n cK) ∧ (w.setCell ⟨bK, i, none⟩ v).cell? ⟨g, 3, none⟩ = some (.slice (some ⟨bU, 0, none⟩) n cU) ∧ (w.setCell ⟨bK, i, none⟩ v).cell? ⟨g, 4, none⟩ = some (.slice (some ⟨bH, 0, none⟩) n cH) ∧ (w.setCell ⟨bK, i, none⟩ v).cell? ⟨bX, 0, none⟩ = some a ∧ (w.setCell ⟨bK, i, none⟩ v).cell? ⟨bX, 1, none⟩ = some b ∧ (w.setCell ⟨bK, i, none⟩ v).cell? ⟨bX, 2, none⟩ = some c := by
  subst hn
  have s1 : StepC (fun c => c = k + 1) col w col _ := StepC.set ht (a := ⟨bK, i, none⟩) h.ks.col.of v
  have b1 := h.box.keep s1 (by omega)
  have b2 := B.keep s1 (by omega)
  exact ⟨b1.cell 2 rfl, b1.cell 3 rfl, b1.cell 4 rfl, b2.cell 0 rfl, b2.cell 1 rfl, b2.cell 2 rfl⟩
theorem RefQB.s2 {bX n j : Nat} {a b c v u : Value} {ty : TypeId} (h : RefQB col k w g ga q bK cK bU cU bH cH) (ht : Tidy col w) (B : BoxC col w bX 0 #[a, b, c] ty) (hn : q.e.length + 1 = n) :
    ((w.setCell ⟨bK, i, none⟩ v).setCell ⟨bU, j, none⟩ u).cell? ⟨g, 2, none⟩ = some (.slice (some ⟨bK, 0, none⟩) n cK) ∧ ((w.setCell ⟨bK, i, none⟩ v).setCell ⟨bU, j, none⟩ u).cell? ⟨g, 3, none⟩ = some (.slice (some ⟨bU, 0, none⟩) n cU) ∧ ((w.setCell ⟨bK, i, none⟩ v).setCell ⟨bU, j, none⟩ u).cell? ⟨g, 4, none⟩ = some (.slice (some ⟨bH, 0, none⟩) n cH) ∧ ((w.setCell ⟨bK, i, none⟩ v).setCell ⟨bU, j, none⟩ u).cell? ⟨bX, 0, none⟩ = some a ∧ ((w.setCell ⟨bK, i, none⟩ v).setCell ⟨bU, j, none⟩ u).cell? ⟨bX, 1, none⟩ = some b ∧ ((w.setCell ⟨bK, i, none⟩ v).setCell ⟨bU, j, none⟩ u).cell? ⟨bX, 2, none⟩ = some c := by
  subst hn
  have s1 : StepC (fun c => c = k + 1) col w col _ := StepC.set ht (a := ⟨bK, i, none⟩) h.ks.col.of v
  have b1 := h.box.keep s1 (by omega)
  have b2 := B.keep s1 (by omega)
  have u1 := h.us.keep s1 (by omega)
  have s2 : StepC (fun c => c = k + 2) col _ col _ := StepC.set s1.tidy (a := ⟨bU, j, none⟩) u1.col.of u
  have b3 := b1.keep s2 (by omega)
  have b4 := b2.keep s2 (by omega)
  exact ⟨b3.cell 2 rfl, b3.cell 3 rfl, b3.cell 4 rfl, b4.cell 0 rfl, b4.cell 1 rfl, b4.cell 2 rfl⟩
/-- The cells that are stored into are there. -/
theorem RefQB.old (h : RefQB col k w g ga q bK cK bU cU bH cH) (ht : Tidy col w) (hi : i < q.e.length) (v u : Value) : ∃ a1 a2 a3 a4 a5, w.cell? ⟨bK, i + 1, none⟩ = some a1 ∧ (w.setCell ⟨bK, i + 1, none⟩ v).cell? ⟨bU, i + 1, none⟩ = some a2 ∧
    ((w.setCell ⟨bK, i + 1, none⟩ v).setCell ⟨bU, i + 1, none⟩ u).cell? ⟨bH, (i + 1) * 3, none⟩ = some a3 ∧ ((w.setCell ⟨bK, i + 1, none⟩ v).setCell ⟨bU, i + 1, none⟩ u).cell? ⟨bH, (i + 1) * 3 + 1, none⟩ = some a4 ∧ ((w.setCell ⟨bK, i + 1, none⟩ v).setCell ⟨bU, i + 1, none⟩ u).cell? ⟨bH, (i + 1) * 3 + 2, none⟩ = some a5 := by
  obtain ⟨y, hy⟩ : ∃ y, q.e[i]? = some y := ⟨_, List.getElem?_eq_getElem hi⟩
  have eU : (usR q.e)[i + 1]? = some (y.u : Int) := by simp [usR, hy]
  have eH : (hsR q.e)[i + 1]? = some y.h := by simp [hsR, hy]
  have s1 : StepC (fun c => c = k + 1) col w col _ := StepC.set ht (a := ⟨bK, i + 1, none⟩) h.ks.col.of v
  have u1 := h.us.keep s1 (by omega)
  have s2 : StepC (fun c => c = k + 2) col _ col _ := StepC.set s1.tidy (a := ⟨bU, i + 1, none⟩) u1.col.of u
  have v1 := (h.hs.keep s1 (by omega)).keep s2 (by omega)
  have c2 := u1.own.cell (j := i + 1) (i := 0) (a := (y.u : Int)) (u := .int .i64 y.u) eU rfl
  rw [show (i + 1) * kI.k + 0 = i + 1 by simp [kI]] at c2
  exact ⟨_, _, _, _, _, h.ck hy, c2, v1.own.cell eH (i := 0) rfl, v1.own.cell eH (i := 1) rfl, v1.own.cell eH (i := 2) rfl⟩
/-- The pool with the new number, in both ways. -/
theorem put_dead (hj : slotNo q.e < q.e.length) : q.put s hd = { q with e := q.e.set (slotNo q.e) ⟨s, 1, hd⟩, t := q.t + 1 } := by
  unfold PSt.put putE; rw [if_pos hj]
theorem put_grow (hj : slotNo q.e = q.e.length) : q.put s hd = { q.grow with e := q.grow.e.set q.e.length ⟨s, 1, hd⟩, t := q.t + 1 } := by
  unfold PSt.put putE PSt.grow; rw [if_neg (by omega)]; simp [List.set_append]
end
end Go.Proofs.Ytenchaifnfgijaa
