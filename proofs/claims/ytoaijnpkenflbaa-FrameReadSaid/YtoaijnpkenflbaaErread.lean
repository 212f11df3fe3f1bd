/- heavykeysref01's Reader: Number, Upto, Text. Conditions: none beyond those typed. -/
import Derived.Test.YtoaijnpkenflbaaEdec
namespace Go.Proofs.Ytoaijnpkenflbaa
open Go.ChangeShapes Go.WideShapes Go.ChangeAt Go.RowKit
set_option linter.unusedVariables false
set_option linter.unusedSimpArgs false
set_option maxRecDepth 100000

/-- The reader in block g: no error yet, the bytes l before it. -/
def RA (w : World) (g : Nat) (l : List Int) : Prop := ∃ A n c, w.heap[g]? = some (.cells #[.slice A n c, .int .i64 0] 86 (0, 0)) ∧ Rd w A n c l
/-- The same, where the bytes lie in block b. -/
def RB (w : World) (g b : Nat) (l : List Int) : Prop := ∃ o n c, w.heap[g]? = some (.cells #[.slice (some ⟨b, o, none⟩) n c, .int .i64 0] 86 (0, 0)) ∧ Rd w (some ⟨b, o, none⟩) n c l
/-- The reader in block g has the error z. -/
def RE (w : World) (g : Nat) (z : Int) : Prop := ∃ A n c, w.heap[g]? = some (.cells #[.slice A n c, .int .i64 z] 86 (0, 0))
section
variable {w w' : World} {g b : Nat} {l : List Int} {z : Int}
theorem heap_lt {o : Obj} (h : w.heap[g]? = some o) : g < w.heap.size := by
  rcases Nat.lt_or_ge g w.heap.size with h' | h'
  · exact h'
  · rw [Array.getElem?_eq_none h'] at h; cases h
theorem RB.ra (h : RB w g b l) : RA w g l := by
  obtain ⟨o, n, c, h1, h2⟩ := h
  exact ⟨_, n, c, h1, h2⟩
theorem RA.lt (h : RA w g l) : g < w.heap.size := by obtain ⟨_, _, _, h, _⟩ := h; exact heap_lt h
theorem RE.lt (h : RE w g z) : g < w.heap.size := by obtain ⟨_, _, _, h⟩ := h; exact heap_lt h
theorem RA.bytes (h : RA w g l) : ∀ z ∈ l, 0 ≤ z ∧ z ≤ 255 := by obtain ⟨_, _, _, _, h⟩ := h; exact h.bytes
theorem RE.far {row : Option Nat} (h : RE w g z) (hg : w.grownBy w' row) (h1 : row ≠ some g) : RE w' g z := by
  obtain ⟨A, n, c, hh⟩ := h
  exact ⟨A, n, c, (hg.block g (heap_lt hh) (fun e => h1 e.symm)).trans hh⟩
theorem RE.below (h : RE w g z) (hb : Below w.heap.size w w') : RE w' g z := by
  obtain ⟨A, n, c, hh⟩ := h
  exact ⟨A, n, c, (hb.block g (heap_lt hh)).trans hh⟩
theorem RB.far {row : Option Nat} (h : RB w g b l) (hg : w.grownBy w' row) (h1 : row ≠ some g) (h2 : row ≠ some b) : RB w' g b l := by
  obtain ⟨o, n, c, hh, hR⟩ := h
  refine ⟨o, n, c, (hg.block g (heap_lt hh) (fun e => h1 e.symm)).trans hh, hR.1, hR.2.1, hR.2.2.1, hR.2.2.2.1, fun j z hz => ?_⟩
  obtain ⟨b', o', hA, hc⟩ := hR.2.2.2.2 j z hz
  injection hA with hA
  injection hA with e1 e2
  subst e1 e2
  exact ⟨_, _, rfl, hg.cell hc (fun e => h2 e.symm)⟩
theorem RB.below (h : RB w g b l) (hb : Below w.heap.size w w') : RB w' g b l := by
  obtain ⟨o, n, c, hh, hR⟩ := h
  exact ⟨o, n, c, (hb.block g (heap_lt hh)).trans hh, hR.below hb⟩
theorem RA.below (h : RA w g l) (hb : Below w.heap.size w w') : RA w' g l := by
  obtain ⟨A, n, c, hh, hR⟩ := h
  exact ⟨A, n, c, (hb.block g (heap_lt hh)).trans hh, hR.below hb⟩
theorem RB.same {b0 b o n c : Nat} {v : Value} (hh : w.heap[g]? = some (.cells #[.slice (some ⟨b, o, none⟩) n c, v] 86 (0, 0))) (h : RB w g b0 l) : b0 = b := by
  obtain ⟨o', n', c', h2, _⟩ := h
  rw [hh] at h2
  injection h2 with h2
  injection h2 with h2
  simp at h2
  exact h2.1.1.1.symm
theorem RB.put {n c n' c' b o : Nat} {A : Option Addr} {l' : List Int} (hh : w.heap[g]? = some (.cells #[.slice A n c, .int .i64 0] 86 (0, 0))) (hr : Rd w (some ⟨b, o, none⟩) n' c' l') : RB (w.setCell ⟨g, 0, none⟩ (.slice (some ⟨b, o, none⟩) n' c')) g b l' :=
  ⟨o, n', c', by simp [World.setCell, Array.getElem?_modify, hh], hr.off (r := [.int .i64 0]) hh (by intro z u hu; simp at hu; rcases hu with rfl | rfl <;> simp) 0 _⟩
theorem RE.put {n c : Nat} {A : Option Addr} {y : Int} (hh : w.heap[g]? = some (.cells #[.slice A n c, .int .i64 y] 86 (0, 0))) (z : Int) : RE (w.setCell ⟨g, 1, none⟩ (.int .i64 z)) g z :=
  ⟨A, n, c, by simp [World.setCell, Array.getElem?_modify, hh]⟩
end
theorem rdN_err {l : List Int} (h : rdE l ≠ 0) : rdN l = 0 := by
  unfold rdN
  unfold rdE at h
  rw [if_pos]
  by_cases h1 : lead l = 10
  · exact .inl h1
  · rw [if_neg h1] at h
    by_cases h2 : lead l = l.length
    · exact .inr (.inl h2)
    · rw [if_neg h2] at h
      by_cases h3 : (lead l = 9 ∧ 1 < l.getD (lead l) 0) ∨ (0 < lead l ∧ l.getD (lead l) 0 = 0)
      · exact .inr (.inr h3)
      · rw [if_neg h3] at h; exact absurd rfl h

/-- What Number leaves. -/
def RnOut (g : Nat) (l : List Int) (w : World) (e : Ending) (w' : World) : Prop :=
  e = .returned (.int .u64 (rdN l)) ∧ w.grownBy w' (some g) ∧ (rdE l = 0 → ∃ b, RB w' g b (numR l) ∧ b < w.heap.size ∧ ∀ b0, RB w g b0 l → b0 = b) ∧ (rdE l ≠ 0 → RE w' g (rdE l))

set_option maxHeartbeats 1000000 in
theorem rnumber_any (g : Nat) (l : List Int) (w : World) (hR : RA w g l) :
    Calls Try.prog 50 #[.pointer (some ⟨g, 0, none⟩)] w (RnOut g l w) := by
  obtain ⟨A, n, c, hh, hRd⟩ := hR
  have c0 : w.cell? ⟨g, 0, none⟩ = some (.slice A n c) := by rw [Lib.cell_of_heap hh]; rfl
  have c1 : w.cell? ⟨g, 1, none⟩ = some (.int .i64 0) := by rw [Lib.cell_of_heap hh]; rfl
  have f0 : w.frozen? ⟨g, 0, none⟩ = false := by simp [World.frozen?, hh]
  have f1 : w.frozen? ⟨g, 1, none⟩ = false := by simp [World.frozen?, hh]
  by_cases he : rdE l = 0
  · obtain ⟨k, hk, hk1, hkn, _, hN0, hN1, _⟩ := rd_unique l hRd.bytes he
    have hln := hRd.len
    rw [hln] at hkn
    have HE := Lib.hid he
    have HK := Lib.hid hk
    obtain ⟨b, o, rfl⟩ := hRd.some_of (by omega)
    have HBL : Hid (b < w.heap.size) := Lib.hid (by obtain ⟨b', o', z, hA, _, _, _, hbl, _⟩ := hRd.at_ (k := 0) (by omega); injection hA with hA; injection hA with e1 _; subst e1; exact hbl)
    have hcap := hRd.cap
    have hmax := hRd.max
    have i1 : (0 : Int) ≤ (k : Int) := by omega
    have i2 : (k : Int) ≤ (n : Int) := by omega
    clear he hk
    go_enter Try.func50, Try.ntmps50
    go_wp2_with fail
    refine (rread_any _ _ _ _ _ hRd).mono ?_
    rintro e w' ⟨rfl, rfl⟩
    rw [HE.out, HK.out]
    go_wp2
    · go_ret
      exact ⟨rfl, grow_in (World.grownBy.refl _ _) (.inl rfl) _ _, fun _ => ⟨b, numR_at HK.out ▸ RB.put hh (hRd.drop_all hkn (by assumption) _), HBL.out, fun b0 h => RB.same hh h⟩, fun h => absurd HE.out h⟩
    · go_ret
      exact ⟨rfl, grow_in (World.grownBy.refl _ _) (.inl rfl) _ _, fun _ => ⟨b, numR_at HK.out ▸ RB.put hh (hRd.drop hkn), HBL.out, fun b0 h => RB.same hh h⟩, fun h => absurd HE.out h⟩
  · have H0 := Lib.hid he
    have HN := Lib.hid (rdN_err he)
    have hv1 : (rdE l == 0) = false := beq_false_of_ne he
    have hv2 : (rdE l != 0) = true := bne_iff_ne.2 he
    clear he
    go_enter Try.func50, Try.ntmps50
    go_wp2_with fail
    refine (rread_any _ _ _ _ _ hRd).mono ?_
    rintro e w' ⟨rfl, rfl⟩
    go_wp2
    go_ret
    exact ⟨by rw [HN.out]; rfl, grow_in (World.grownBy.refl _ _) (.inl rfl) _ _, fun h => absurd h H0.out, fun _ => RE.put hh _⟩
theorem rnumber_err (g : Nat) (z : Int) (w : World) (hR : RE w g z) (hz : z ≠ 0) :
    Calls Try.prog 50 #[.pointer (some ⟨g, 0, none⟩)] w fun e w' => e = .returned (.int .u64 0) ∧ w = w' := by
  obtain ⟨A, n, c, hh⟩ := hR
  have c1 : w.cell? ⟨g, 1, none⟩ = some (.int .i64 z) := by rw [Lib.cell_of_heap hh]; rfl
  have hv1 : (z == 0) = false := beq_false_of_ne hz
  have hv2 : (z != 0) = true := bne_iff_ne.2 hz
  go_enter Try.func50, Try.ntmps50
  go_wp2
  go_ret
  exact ⟨rfl, rfl⟩

/-- What Upto leaves. -/
def RuOut (g : Nat) (most over : Int) (l : List Int) (w : World) (e : Ending) (w' : World) : Prop :=
  e = .returned (.int .i64 (numV most over l)) ∧ w.grownBy w' (some g) ∧ (numE most over l = 0 → ∃ b, RB w' g b (numR l) ∧ b < w.heap.size ∧ ∀ b0, RB w g b0 l → b0 = b) ∧ (numE most over l ≠ 0 → RE w' g (numE most over l))
theorem RuOut.mk' {g : Nat} {most over v : Int} {l : List Int} {w w' : World} (h2 : numV most over l = v) (hg : w.grownBy w' (some g)) (h : numE most over l = 0 → ∃ b, RB w' g b (numR l) ∧ b < w.heap.size ∧ ∀ b0, RB w g b0 l → b0 = b) (h' : numE most over l ≠ 0 → RE w' g (numE most over l)) :
    RuOut g most over l w (.returned (.int .i64 v)) w' := by
  subst h2; exact ⟨rfl, hg, h, h'⟩

set_option maxHeartbeats 1000000 in
theorem rupto_any (g : Nat) (most over : Int) (l : List Int) (w : World) (hR : RA w g l) (h0 : 0 ≤ most) (h1 : over ≠ 0) (h2 : most ≤ 1099511627776) :
    Calls Try.prog 49 #[.pointer (some ⟨g, 0, none⟩), .int .u64 most, .int .i64 over] w (RuOut g most over l w) := by
  have hN := rd_top hR.bytes
  by_cases he : rdE l = 0
  · have HE := Lib.hid he
    by_cases hm : most < rdN l
    · obtain ⟨e1, e2⟩ := numE_over he hm h1
      have E1 := Lib.hid e1
      have E2 := Lib.hid e2
      have hv1 : (over == 0) = false := beq_false_of_ne h1
      have hv2 : (over != 0) = true := bne_iff_ne.2 h1
      clear e1 e2 he
      go_enter Try.func49, Try.ntmps49
      go_wp2_with fail
      refine (rnumber_any g l w hR).mono ?_
      rintro e w1 ⟨rfl, hg1, hr1, -⟩
      obtain ⟨b, hB, _, _⟩ := hr1 HE.out
      obtain ⟨o, n, c, hh, _⟩ := hB
      have c1 : w1.cell? ⟨g, 1, none⟩ = some (.int .i64 0) := by rw [Lib.cell_of_heap hh]; rfl
      have f1 : w1.frozen? ⟨g, 1, none⟩ = false := by simp [World.frozen?, hh]
      clear hr1
      go_wp2
      go_ret
      exact RuOut.mk' E2.out (grow_in hg1 (.inl rfl) _ _) (fun e => absurd (E1.out.symm.trans e) h1) (fun _ => by rw [E1.out]; exact RE.put hh _)
    · obtain ⟨e1, e2⟩ := numE_ok (over := over) he hm
      have E1 := Lib.hid e1
      have E2 := Lib.hid e2
      have hm' : rdN l ≤ most := by omega
      obtain ⟨hN0, hN1⟩ := hN
      clear e1 e2 he hm
      go_enter Try.func49, Try.ntmps49
      go_wp2_with fail
      refine (rnumber_any g l w hR).mono ?_
      rintro e w1 ⟨rfl, hg1, hr1, -⟩
      have HB := Lib.hid (hr1 HE.out)
      obtain ⟨b, hB, _, _⟩ := hr1 HE.out
      obtain ⟨o, n, c, hh, _⟩ := hB
      have c1 : w1.cell? ⟨g, 1, none⟩ = some (.int .i64 0) := by rw [Lib.cell_of_heap hh]; rfl
      clear hr1
      go_wp2
      go_ret
      exact RuOut.mk' E2.out hg1 (fun _ => HB.out) (fun e => absurd E1.out e)
  · obtain ⟨e1, e2⟩ := numE_err (most := most) (over := over) he
    have E1 := Lib.hid e1
    have E2 := Lib.hid e2
    have H0 := Lib.hid he
    have hv1 : (rdE l == 0) = false := beq_false_of_ne he
    have hv2 : (rdE l != 0) = true := bne_iff_ne.2 he
    clear e1 e2 he
    go_enter Try.func49, Try.ntmps49
    go_wp2_with fail
    refine (rnumber_any g l w hR).mono ?_
    rintro e w1 ⟨rfl, hg1, -, hr1⟩
    have HX := Lib.hid (hr1 H0.out)
    obtain ⟨A, n, c, hh⟩ := hr1 H0.out
    have c1 : w1.cell? ⟨g, 1, none⟩ = some (.int .i64 (rdE l)) := by rw [Lib.cell_of_heap hh]; rfl
    clear hr1
    go_wp2
    go_ret
    exact RuOut.mk' E2.out hg1 (fun e => absurd (E1.out.symm.trans e) H0.out) (fun _ => by rw [E1.out]; exact HX.out)
theorem rupto_err (g : Nat) (most over z : Int) (w : World) (hR : RE w g z) (hz : z ≠ 0) :
    Calls Try.prog 49 #[.pointer (some ⟨g, 0, none⟩), .int .u64 most, .int .i64 over] w fun e w' => e = .returned (.int .i64 0) ∧ w = w' := by
  have HR := Lib.hid hR
  obtain ⟨A, n, c, hh⟩ := hR
  have c1 : w.cell? ⟨g, 1, none⟩ = some (.int .i64 z) := by rw [Lib.cell_of_heap hh]; rfl
  have hv1 : (z == 0) = false := beq_false_of_ne hz
  have hv2 : (z != 0) = true := bne_iff_ne.2 hz
  go_enter Try.func49, Try.ntmps49
  go_wp2_with fail
  refine (rnumber_err g z w HR.out hz).mono ?_
  rintro e w1 ⟨rfl, rfl⟩
  go_wp2
  go_ret
  exact ⟨rfl, rfl⟩
end Go.Proofs.Ytoaijnpkenflbaa
