/- heavykeysref01's Reader.Text and Decode. Conditions: none beyond those typed. -/
import Derived.Test.YtoaijnpkenflbaaErread
namespace Go.Proofs.Ytoaijnpkenflbaa
open Go.ChangeShapes Go.WideShapes Go.ChangeAt Go.RowKit
set_option linter.unusedVariables false
set_option linter.unusedSimpArgs false
set_option maxRecDepth 100000

/-- What Text leaves. -/
def RtOut (g b : Nat) (l : List Int) (w : World) (e : Ending) (w' : World) : Prop :=
  e = .returned (.string (txtV l)) ∧ w.grownBy w' (some g) ∧ (txtE l = 0 → RB w' g b (txtR l)) ∧ (txtE l ≠ 0 → RE w' g (txtE l))
theorem RtOut.mk' {g b : Nat} {s : ByteArray} {l : List Int} {w w' : World} (h2 : txtV l = s) (hg : w.grownBy w' (some g)) (h : txtE l = 0 → RB w' g b (txtR l)) (h' : txtE l ≠ 0 → RE w' g (txtE l)) :
    RtOut g b l w (.returned (.string s)) w' := by
  subst h2; exact ⟨rfl, hg, h, h'⟩

set_option maxHeartbeats 1000000 in
theorem rtext_any (g b : Nat) (l : List Int) (w : World) (hR : RB w g b l) :
    Calls Try.prog 51 #[.pointer (some ⟨g, 0, none⟩), .int .u64 4096] w (RtOut g b l w) := by
  have hb : ∀ z ∈ l, 0 ≤ z ∧ z ≤ 255 := hR.ra.bytes
  by_cases h0 : numE 4096 4 l = 0
  · obtain ⟨_, hN, hV⟩ := numE_zero h0 (by decide)
    have H0 := Lib.hid h0
    have HV := Lib.hid hV
    obtain ⟨hN0, hN1⟩ := rd_top hb
    obtain ⟨k, hk⟩ := Int.eq_ofNat_of_zero_le hN0
    have HK := Lib.hid hk
    by_cases h1 : ((numR l).length : Int) < rdN l
    · obtain ⟨e1, e2⟩ := txt_short h0 h1
      have E1 := Lib.hid e1
      have E2 := Lib.hid e2
      rw [hk] at h1
      clear e1 e2 h0 hV
      go_enter Try.func51, Try.ntmps51
      go_wp2_with fail
      refine (rupto_any g 4096 4 l w hR.ra (by decide) (by decide) (by decide)).mono ?_
      rintro e w1 ⟨rfl, hg1, hr1, -⟩
      obtain ⟨b1, hR1, _, hbb⟩ := hr1 H0.out
      obtain rfl := hbb _ hR
      rw [HV.out, HK.out]
      clear hr1 hbb
      obtain ⟨o, n, c, hh, hRd⟩ := hR1
      have c0 : w1.cell? ⟨g, 0, none⟩ = some (.slice (some ⟨b, o, none⟩) n c) := by rw [Lib.cell_of_heap hh]; rfl
      have c1 : w1.cell? ⟨g, 1, none⟩ = some (.int .i64 0) := by rw [Lib.cell_of_heap hh]; rfl
      have f1 : w1.frozen? ⟨g, 1, none⟩ = false := by simp [World.frozen?, hh]
      rw [hRd.len] at h1
      have h1' : n < k := by omega
      have hcap := hRd.cap
      have hmax := hRd.max
      clear hk hN0 hN1 hN
      go_wp2
      go_ret
      exact RtOut.mk' E2.out (grow_in hg1 (.inl rfl) _ _) (fun e => by rw [E1.out] at e; cases e) (fun _ => by rw [E1.out]; exact RE.put hh _)
    · obtain ⟨e1, e2⟩ := txt_ok h0 h1
      have E1 := Lib.hid e1
      have E2 := Lib.hid e2
      rw [hk] at h1
      clear e1 e2 h0 hV
      go_enter Try.func51, Try.ntmps51
      go_wp2_with fail
      refine (rupto_any g 4096 4 l w hR.ra (by decide) (by decide) (by decide)).mono ?_
      rintro e w1 ⟨rfl, hg1, hr1, -⟩
      obtain ⟨b1, hR1, _, hbb⟩ := hr1 H0.out
      obtain rfl := hbb _ hR
      rw [HV.out, HK.out]
      clear hr1 hbb
      obtain ⟨o, n, c, hh, hRd⟩ := hR1
      have c0 : w1.cell? ⟨g, 0, none⟩ = some (.slice (some ⟨b, o, none⟩) n c) := by rw [Lib.cell_of_heap hh]; rfl
      have c1 : w1.cell? ⟨g, 1, none⟩ = some (.int .i64 0) := by rw [Lib.cell_of_heap hh]; rfl
      have f0 : w1.frozen? ⟨g, 0, none⟩ = false := by simp [World.frozen?, hh]
      rw [hRd.len] at h1
      have hcap := hRd.cap
      have hmax := hRd.max
      have hkn : k ≤ n := by omega
      have i1 : (0 : Int) ≤ (k : Int) := by omega
      have i2 : (k : Int) ≤ (n : Int) := by omega
      have i3 : (k : Int) ≤ (c : Int) := by omega
      have hT := hRd.take hkn
      have hC := conv_bS hT
      have HS : Hid (bS ((numR l).take k) = txtV l) := Lib.hid (by rw [E2.out, HK.out, Int.toNat_natCast])
      have HR : Hid ((numR l).drop k = txtR l) := Lib.hid (by unfold txtR; rw [HK.out, Int.toNat_natCast])
      rw [HS.out] at hC
      clear hN0 hN1 hk hT E2 h1
      go_wp2
      · go_ret
        exact RtOut.mk' rfl (grow_in hg1 (.inl rfl) _ _) (fun _ => HR.out ▸ RB.put hh (hRd.drop_all hkn (by assumption) _)) (fun e => absurd E1.out e)
      · go_ret
        exact RtOut.mk' rfl (grow_in hg1 (.inl rfl) _ _) (fun _ => HR.out ▸ RB.put hh (hRd.drop hkn)) (fun e => absurd E1.out e)
  · obtain ⟨e1, e2⟩ := txt_num h0
    have E1 := Lib.hid e1
    have E2 := Lib.hid e2
    have H0 := Lib.hid h0
    have HV : Hid (numV 4096 4 l = 0) := Lib.hid (by unfold numV; rw [if_neg h0])
    have hv1 : (numE 4096 4 l == 0) = false := beq_false_of_ne h0
    have hv2 : (numE 4096 4 l != 0) = true := bne_iff_ne.2 h0
    clear e1 e2 h0
    go_enter Try.func51, Try.ntmps51
    go_wp2_with fail
    refine (rupto_any g 4096 4 l w hR.ra (by decide) (by decide) (by decide)).mono ?_
    rintro e w1 ⟨rfl, hg1, -, hr1⟩
    have HX := Lib.hid (hr1 H0.out)
    obtain ⟨A, n, c, hh⟩ := hr1 H0.out
    have c1 : w1.cell? ⟨g, 1, none⟩ = some (.int .i64 (numE 4096 4 l)) := by rw [Lib.cell_of_heap hh]; rfl
    rw [HV.out]
    clear hr1
    go_wp2
    go_ret
    exact RtOut.mk' E2.out hg1 (fun e => absurd (E1.out.symm.trans e) H0.out) (fun _ => by rw [E1.out]; exact HX.out)
theorem rtext_err (g : Nat) (z : Int) (w : World) (hR : RE w g z) (hz : z ≠ 0) :
    Calls Try.prog 51 #[.pointer (some ⟨g, 0, none⟩), .int .u64 4096] w fun e w' => e = .returned (.string ⟨#[]⟩) ∧ w = w' := by
  have HR := Lib.hid hR
  obtain ⟨A, n, c, hh⟩ := hR
  have c1 : w.cell? ⟨g, 1, none⟩ = some (.int .i64 z) := by rw [Lib.cell_of_heap hh]; rfl
  have hv1 : (z == 0) = false := beq_false_of_ne hz
  have hv2 : (z != 0) = true := bne_iff_ne.2 hz
  go_enter Try.func51, Try.ntmps51
  go_wp2_with fail
  refine (rupto_err g _ _ z w HR.out hz).mono ?_
  rintro e w1 ⟨rfl, rfl⟩
  go_wp2
  go_ret
  exact ⟨rfl, rfl⟩
end Go.Proofs.Ytoaijnpkenflbaa
