/- Package event's reader: a number, a text. Conditions: none beyond those typed. -/
import Derived.Test.YtoaijnpkenflbaaEitem
import Derived.Test.YtoaijnpkenflbaaEconv
import Derived.Test.YtoaijnpkenflbaaVrefread
import Derived.Test.YtoaijnpkenflbaaEmade
namespace Go.Proofs.Ytoaijnpkenflbaa
open Go.ChangeShapes Go.WideShapes Go.ChangeAt Go.RowKit
set_option linter.unusedVariables false
set_option linter.unusedSimpArgs false
set_option maxRecDepth 100000

/-- The reader in block g, which has the bytes l before it. -/
def Rdr (w : World) (g : Nat) (l : List Int) : Prop := ∃ A n c, w.heap[g]? = some (.cells #[.slice A n c] 93 (0, 0)) ∧ Rd w A n c l
theorem Rdr.below {w w' : World} {g : Nat} {l : List Int} (h : Rdr w g l) (hb : Below w.heap.size w w') : Rdr w' g l := by
  obtain ⟨A, n, c, hh, hR⟩ := h
  have hlt : g < w.heap.size := by
    rcases Nat.lt_or_ge g w.heap.size with h | h
    · exact h
    · rw [Array.getElem?_eq_none h] at hh; cases hh
  exact ⟨A, n, c, (hb.block g hlt).trans hh, hR.below hb⟩
theorem Rd.off {w : World} {A : Option Addr} {n c g : Nat} {l : List Int} {t : TypeId} {v : Value} {r : List Value} (h : Rd w A n c l) (hh : w.heap[g]? = some (.cells (v :: r).toArray t (0, 0))) (hv : ∀ z, ∀ u ∈ v :: r, u ≠ .int .u8 z) (i : Nat) (u : Value) : Rd (w.setCell ⟨g, i, none⟩ u) A n c l := by
  refine ⟨h.1, h.2.1, h.2.2.1, h.2.2.2.1, fun j y hy => ?_⟩
  obtain ⟨b, o, hA, c0⟩ := h.2.2.2.2 j y hy
  have hne : b ≠ g := by
    rintro rfl
    rw [cell_of_row w b (o + j) _ _ (0, 0) hh] at c0
    rw [List.getElem?_toArray] at c0
    exact hv y _ (List.mem_of_getElem? c0) rfl
  refine ⟨b, o, hA, ?_⟩
  rw [World.cell?_setCell_other _ _ _ _ (by simp [hne])]; exact c0
theorem Rd.drop {w : World} {b o n c : Nat} {l : List Int} (h : Rd w (some ⟨b, o, none⟩) n c l) {k : Nat} (hk : k ≤ n) : Rd w (some ⟨b, o + k, none⟩) (n - k) (c - k) (l.drop k) := by
  refine ⟨by rw [List.length_drop, h.1], by have := h.2.1; omega, by have := h.2.2.1; omega, fun z hz => h.bytes z (List.mem_of_mem_drop hz), fun j z hz => ?_⟩
  rw [List.getElem?_drop] at hz
  obtain ⟨b', o', hA, hc⟩ := h.2.2.2.2 _ z hz
  injection hA with hA
  injection hA with e1 e2
  subst e1 e2
  exact ⟨b, o + k, rfl, by rw [Nat.add_assoc]; exact hc⟩
theorem Rd.some_of {w : World} {A : Option Addr} {n c : Nat} {l : List Int} (h : Rd w A n c l) (hn : 0 < n) : ∃ b o, A = some ⟨b, o, none⟩ := by
  obtain ⟨b, o, _, hA, _⟩ := h.at_ hn
  exact ⟨b, o, hA⟩

theorem Rdr.put {w : World} {g n c n' c' : Nat} {A A' : Option Addr} {l' : List Int} (hh : w.heap[g]? = some (.cells #[.slice A n c] 93 (0, 0))) (hr : Rd w A' n' c' l') : Rdr (w.setCell ⟨g, 0, none⟩ (.slice A' n' c')) g l' :=
  ⟨A', n', c', by simp [World.setCell, Array.getElem?_modify, hh], hr.off (r := []) hh (by intro z u hu; simp at hu; subst hu; simp) 0 _⟩
/-- The same, where the bytes lie in block b. -/
def RdrB (w : World) (g b : Nat) (l : List Int) : Prop := ∃ o n c, w.heap[g]? = some (.cells #[.slice (some ⟨b, o, none⟩) n c] 93 (0, 0)) ∧ Rd w (some ⟨b, o, none⟩) n c l
theorem RdrB.rdr {w : World} {g b : Nat} {l : List Int} (h : RdrB w g b l) : Rdr w g l := by
  obtain ⟨o, n, c, h1, h2⟩ := h
  exact ⟨_, n, c, h1, h2⟩
theorem RdrB.one {w : World} {g b b' : Nat} {l l' : List Int} (h : RdrB w g b l) (h' : RdrB w g b' l') : b = b' := by
  obtain ⟨o, n, c, h1, _⟩ := h
  obtain ⟨o', n', c', h2, _⟩ := h'
  rw [h1] at h2
  injection h2 with h2
  injection h2 with h2
  simp at h2
  exact h2.1.1
theorem RdrB.put {w : World} {g n c n' c' b o : Nat} {A : Option Addr} {l' : List Int} (hh : w.heap[g]? = some (.cells #[.slice A n c] 93 (0, 0))) (hr : Rd w (some ⟨b, o, none⟩) n' c' l') : RdrB (w.setCell ⟨g, 0, none⟩ (.slice (some ⟨b, o, none⟩) n' c')) g b l' :=
  ⟨o, n', c', by simp [World.setCell, Array.getElem?_modify, hh], hr.off (r := []) hh (by intro z u hu; simp at hu; subst hu; simp) 0 _⟩
/-- A step that leaves alone the reader's block, and the block of its bytes. -/
theorem RdrB.far {w w' : World} {g b : Nat} {l : List Int} {row : Option Nat} (h : RdrB w g b l) (hg : w.grownBy w' row) (h1 : row ≠ some g) (h2 : row ≠ some b) : RdrB w' g b l := by
  obtain ⟨o, n, c, hh, hR⟩ := h
  have hlt : g < w.heap.size := by
    rcases Nat.lt_or_ge g w.heap.size with h | h
    · exact h
    · rw [Array.getElem?_eq_none h] at hh; cases hh
  refine ⟨o, n, c, (hg.block g hlt (fun e => h1 e.symm)).trans hh, hR.1, hR.2.1, hR.2.2.1, hR.2.2.2.1, fun j z hz => ?_⟩
  obtain ⟨b', o', hA, hc⟩ := hR.2.2.2.2 j z hz
  injection hA with hA
  injection hA with e1 e2
  subst e1 e2
  exact ⟨_, _, rfl, hg.cell hc (fun e => h2 e.symm)⟩
theorem RdrB.below {w w' : World} {g b : Nat} {l : List Int} (h : RdrB w g b l) (hb : Below w.heap.size w w') : RdrB w' g b l := by
  obtain ⟨o, n, c, hh, hR⟩ := h
  have hlt : g < w.heap.size := by
    rcases Nat.lt_or_ge g w.heap.size with h | h
    · exact h
    · rw [Array.getElem?_eq_none h] at hh; cases hh
  exact ⟨o, n, c, (hb.block g hlt).trans hh, hR.below hb⟩
theorem RdrB.same {w : World} {g b0 b o n c : Nat} {l : List Int} (hh : w.heap[g]? = some (.cells #[.slice (some ⟨b, o, none⟩) n c] 93 (0, 0))) (h : RdrB w g b0 l) : b0 = b := by
  obtain ⟨o', n', c', h2, _⟩ := h
  rw [hh] at h2
  injection h2 with h2
  injection h2 with h2
  simp at h2
  exact h2.1.1.symm
theorem Rd.drop_all {w : World} {A : Option Addr} {n c k : Nat} {l : List Int} (h : Rd w A n c l) (hk : k ≤ n) (hc : c = k) (A' : Option Addr) : Rd w A' (n - k) 0 (l.drop k) := by
  have h1 := h.cap
  have e : n - k = 0 := by omega
  rw [List.drop_eq_nil_of_le (by rw [h.len]; omega), e]
  exact Rd.nil w A' _ (by simp [maxLen])
theorem numR_at {l : List Int} {k : Nat} (h : rdK l = (k : Int)) : l.drop k = numR l := by unfold numR; rw [h, Int.toNat_natCast]
/-- What reading a number leaves. -/
def NumOut (g : Nat) (most over : Int) (l : List Int) (w : World) (e : Ending) (w' : World) : Prop :=
  e = .returned (.tuple #[.int .u64 (numV most over l), .int .i64 (numE most over l)]) ∧ w.grownBy w' (some g) ∧ (numE most over l = 0 → ∃ b, RdrB w' g b (numR l) ∧ b < w.heap.size ∧ ∀ b0, RdrB w g b0 l → b0 = b)

theorem NumOut.mk' {g : Nat} {most over z v : Int} {l : List Int} {w w' : World} (h1 : numE most over l = z) (h2 : numV most over l = v) (hg : w.grownBy w' (some g)) (h : z = 0 → ∃ b, RdrB w' g b (numR l) ∧ b < w.heap.size ∧ ∀ b0, RdrB w g b0 l → b0 = b) :
    NumOut g most over l w (.returned (.tuple #[.int .u64 v, .int .i64 z])) w' := by
  subst h1 h2; exact ⟨rfl, hg, h⟩
set_option maxHeartbeats 1000000 in
theorem number_any (g : Nat) (most over : Int) (l : List Int) (w : World) (hR : Rdr w g l) (h0 : 0 ≤ most) (h1 : over ≠ 0) :
    Calls Try.prog 66 #[.pointer (some ⟨g, 0, none⟩), .int .u64 most, .int .i64 over] w (NumOut g most over l w) := by
  have HR := Lib.hid hR
  obtain ⟨A, n, c, hh, hRd⟩ := hR
  have c0 : w.cell? ⟨g, 0, none⟩ = some (.slice A n c) := by rw [Lib.cell_of_heap hh]; rfl
  have f0 : w.frozen? ⟨g, 0, none⟩ = false := by simp [World.frozen?, hh]
  by_cases he : rdE l = 0
  · obtain ⟨k, hk, hk1, hkn, _, hN0, hN1, _⟩ := rd_unique l hRd.bytes he
    have hln := hRd.len
    rw [hln] at hkn
    have HE := Lib.hid he
    have HK := Lib.hid hk
    by_cases hm : most < rdN l
    · obtain ⟨e1, e2⟩ := numE_over he hm h1
      have E1 := Lib.hid e1
      have E2 := Lib.hid e2
      clear e1 e2 he hk
      go_enter Try.func66, Try.ntmps66
      go_wp2_with fail
      refine (read_any _ _ _ _ _ hRd).mono ?_
      rintro e w' ⟨rfl, rfl⟩
      rw [HE.out]
      go_wp2
      go_ret2
      exact NumOut.mk' E1.out E2.out (World.grownBy.refl _ _) (fun e => absurd e h1)
    · obtain ⟨e1, e2⟩ := numE_ok (over := over) he hm
      have E1 := Lib.hid e1
      have E2 := Lib.hid e2
      obtain ⟨b, o, rfl⟩ := hRd.some_of (by omega)
      have HBL : Hid (b < w.heap.size) := Lib.hid (by obtain ⟨b', o', z, hA, _, _, _, hbl, _⟩ := hRd.at_ (k := 0) (by omega); injection hA with hA; injection hA with e1 _; subst e1; exact hbl)
      have hcap := hRd.cap
      have hmax := hRd.max
      have hm' : rdN l ≤ most := by omega
      have i1 : (0 : Int) ≤ (k : Int) := by omega
      have i2 : (k : Int) ≤ (n : Int) := by omega
      clear e1 e2 he hk hm
      go_enter Try.func66, Try.ntmps66
      go_wp2_with fail
      refine (read_any _ _ _ _ _ hRd).mono ?_
      rintro e w' ⟨rfl, rfl⟩
      rw [HE.out, HK.out]
      go_wp2
      · go_ret2
        exact NumOut.mk' E1.out E2.out (grow_in (World.grownBy.refl _ _) (.inl rfl) _ _) (fun _ => ⟨b, numR_at HK.out ▸ RdrB.put hh (hRd.drop_all hkn (by assumption) _), HBL.out, fun b0 h => RdrB.same hh h⟩)
      · go_ret2
        exact NumOut.mk' E1.out E2.out (grow_in (World.grownBy.refl _ _) (.inl rfl) _ _) (fun _ => ⟨b, numR_at HK.out ▸ RdrB.put hh (hRd.drop hkn), HBL.out, fun b0 h => RdrB.same hh h⟩)
  · obtain ⟨e1, e2⟩ := numE_err (most := most) (over := over) he
    have E1 := Lib.hid e1
    have E2 := Lib.hid e2
    have H0 := Lib.hid he
    have hv1 : (rdE l == 0) = false := beq_false_of_ne he
    have hv2 : (rdE l != 0) = true := bne_iff_ne.2 he
    clear e1 e2 he
    go_enter Try.func66, Try.ntmps66
    go_wp2_with fail
    refine (read_any _ _ _ _ _ hRd).mono ?_
    rintro e w' ⟨rfl, rfl⟩
    go_wp2
    go_ret2
    exact NumOut.mk' E1.out E2.out (World.grownBy.refl _ _) (fun e => absurd e H0.out)

/-- What reading a text leaves. -/
def TxtOut (g b : Nat) (l : List Int) (w : World) (e : Ending) (w' : World) : Prop :=
  e = .returned (.tuple #[.string (txtV l), .int .i64 (txtE l)]) ∧ w.grownBy w' (some g) ∧ (txtE l = 0 → RdrB w' g b (txtR l))
theorem TxtOut.mk' {g b : Nat} {z : Int} {s : ByteArray} {l : List Int} {w w' : World} (h1 : txtE l = z) (h2 : txtV l = s) (hg : w.grownBy w' (some g)) (h : z = 0 → RdrB w' g b (txtR l)) :
    TxtOut g b l w (.returned (.tuple #[.string s, .int .i64 z])) w' := by
  subst h1 h2; exact ⟨rfl, hg, h⟩
theorem txt_num {l : List Int} (h : numE 4096 4 l ≠ 0) : txtE l = numE 4096 4 l ∧ txtV l = ⟨#[]⟩ := by
  have e : txtE l = numE 4096 4 l := if_pos h
  exact ⟨e, by unfold txtV; rw [e, if_neg h]⟩
theorem txt_short {l : List Int} (h : numE 4096 4 l = 0) (h1 : ((numR l).length : Int) < rdN l) : txtE l = 2 ∧ txtV l = ⟨#[]⟩ := by
  have e : txtE l = 2 := by unfold txtE; rw [if_neg (by simp [h]), if_pos h1]
  exact ⟨e, by unfold txtV; rw [e, if_neg (by decide)]⟩
theorem txt_ok {l : List Int} (h : numE 4096 4 l = 0) (h1 : ¬ ((numR l).length : Int) < rdN l) : txtE l = 0 ∧ txtV l = bS ((numR l).take (rdN l).toNat) := by
  have e : txtE l = 0 := by unfold txtE; rw [if_neg (by simp [h]), if_neg h1]
  exact ⟨e, by unfold txtV; rw [if_pos e]⟩
theorem grow_drew {w w' : World} {row : Option Nat} (h : w.grownBy w' row) : w.grownBy w'.drew row := grow_drewN h 1

set_option maxHeartbeats 1000000 in
theorem text_any (g b : Nat) (l : List Int) (w : World) (hR : RdrB w g b l) :
    Calls Try.prog 68 #[.pointer (some ⟨g, 0, none⟩)] w (TxtOut g b l w) := by
  have hb : ∀ z ∈ l, 0 ≤ z ∧ z ≤ 255 := by obtain ⟨_, _, _, _, h⟩ := hR; exact h.bytes
  by_cases h0 : numE 4096 4 l = 0
  · obtain ⟨_, hN, hV⟩ := numE_zero h0 (by decide)
    have H0 := Lib.hid h0
    have HV := Lib.hid hV
    obtain ⟨hN0, hN1⟩ := rd_top hb
    by_cases h1 : ((numR l).length : Int) < rdN l
    · obtain ⟨e1, e2⟩ := txt_short h0 h1
      have E1 := Lib.hid e1
      have E2 := Lib.hid e2
      clear e1 e2 h0 hV
      go_enter Try.func68, Try.ntmps68
      go_wp2_with fail
      refine (number_any g 4096 4 l w hR.rdr (by decide) (by decide)).mono ?_
      rintro e w1 ⟨rfl, hg1, hr1⟩
      obtain ⟨b1, hR1, _, hbb⟩ := hr1 H0.out
      obtain rfl := hbb _ hR
      rw [H0.out, HV.out]
      clear hr1 hbb
      obtain ⟨o, n, c, hh, hRd⟩ := hR1
      have c0 : w1.cell? ⟨g, 0, none⟩ = some (.slice (some ⟨b, o, none⟩) n c) := by rw [Lib.cell_of_heap hh]; rfl
      rw [hRd.len] at h1
      have hcap := hRd.cap
      have hmax := hRd.max
      go_wp2
      go_ret2
      exact TxtOut.mk' E1.out E2.out hg1 (fun e => by cases e)
    · obtain ⟨e1, e2⟩ := txt_ok h0 h1
      have E1 := Lib.hid e1
      have E2 := Lib.hid e2
      clear e1 e2 h0 hV
      go_enter Try.func68, Try.ntmps68
      go_wp2_with fail
      refine (number_any g 4096 4 l w hR.rdr (by decide) (by decide)).mono ?_
      rintro e w1 ⟨rfl, hg1, hr1⟩
      obtain ⟨b1, hR1, _, hbb⟩ := hr1 H0.out
      obtain rfl := hbb _ hR
      rw [H0.out, HV.out]
      clear hr1 hbb
      obtain ⟨o, n, c, hh, hRd⟩ := hR1
      have c0 : w1.cell? ⟨g, 0, none⟩ = some (.slice (some ⟨b, o, none⟩) n c) := by rw [Lib.cell_of_heap hh]; rfl
      have f0 : w1.frozen? ⟨g, 0, none⟩ = false := by simp [World.frozen?, hh]
      rw [hRd.len] at h1
      have hcap := hRd.cap
      have hmax := hRd.max
      obtain ⟨k, hk⟩ := Int.eq_ofNat_of_zero_le hN0
      have HK := Lib.hid hk
      rw [hk] at hN h1 ⊢
      have hkn : k ≤ n := by omega
      have i1 : (0 : Int) ≤ (k : Int) := by omega
      have i2 : (k : Int) ≤ (n : Int) := by omega
      have i3 : (k : Int) ≤ (c : Int) := by omega
      have hT := hRd.take hkn
      have hC := conv_bS hT
      have HS : Hid (bS ((numR l).take k) = txtV l) := Lib.hid (by rw [E2.out, HK.out, Int.toNat_natCast])
      have HR : Hid ((numR l).drop k = txtR l) := Lib.hid (by unfold txtR; rw [HK.out, Int.toNat_natCast])
      rw [HS.out] at hC
      clear hN0 hN1 hk hT E2
      go_wp2
      · go_ret2
        exact TxtOut.mk' E1.out rfl (grow_in hg1 (.inl rfl) _ _) (fun _ => HR.out ▸ RdrB.put hh (hRd.drop_all hkn (by assumption) _))
      · go_ret2
        exact TxtOut.mk' E1.out rfl (grow_in hg1 (.inl rfl) _ _) (fun _ => HR.out ▸ RdrB.put hh (hRd.drop hkn))
  · obtain ⟨e1, e2⟩ := txt_num h0
    have E1 := Lib.hid e1
    have E2 := Lib.hid e2
    have H0 := Lib.hid h0
    have hv1 : (numE 4096 4 l == 0) = false := beq_false_of_ne h0
    have hv2 : (numE 4096 4 l != 0) = true := bne_iff_ne.2 h0
    clear e1 e2 h0
    go_enter Try.func68, Try.ntmps68
    go_wp2_with fail
    refine (number_any g 4096 4 l w hR.rdr (by decide) (by decide)).mono ?_
    rintro e w1 ⟨rfl, hg1, hr1⟩
    go_wp2
    go_ret2
    exact TxtOut.mk' E1.out E2.out hg1 (fun e => absurd e H0.out)
end Go.Proofs.Ytoaijnpkenflbaa
