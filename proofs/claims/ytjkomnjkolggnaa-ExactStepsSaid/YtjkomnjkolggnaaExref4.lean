/- The specified exact counters in memory: Add. Conditions: none beyond those typed. -/
import Derived.Test.YtjkomnjkolggnaaExref
import Derived.Test.YtjkomnjkolggnaaSat
import Derived.Deep.CutRange
import Derived.BigQuiet
namespace Go.Proofs.Ytjkomnjkolggnaa
open Go.ChangeShapes Go.WideShapes Go.ChangeAt Go.RowKit
set_option linter.unusedVariables false
set_option linter.unusedSimpArgs false
set_option maxRecDepth 100000

section
variable {P : Nat → Prop} {col col' : Col} {w w' : World} {k g : Nat} {t : ExSt}
/-- The number of an entry grows. -/
theorem RefXB.bump {b c i : Nat} {e : En} (h : RefXB col k w g t (some ⟨b, 0, none⟩) c) (ht : Tidy col w) (hi : t.l[i]? = some e) (x : Int) :
    RefXB col k (w.setCell ⟨b, i * 3 + 1, none⟩ (.int .u64 (e.2.1 + x))) g { t with l := t.l.set i (moreE e x) } (some ⟨b, 0, none⟩) c ∧ StepC (Rng k) col w col (w.setCell ⟨b, i * 3 + 1, none⟩ (.int .u64 (e.2.1 + x))) := by
  have hcol : col b = k + 1 := h.row.col b rfl
  have s := StepC.set (P := fun d => d = k + 1) ht (a := ⟨b, i * 3 + 1, none⟩) hcol (.int .u64 (e.2.1 + x))
  have b1 := h.box.keep s (by omega)
  have r1 := h.row.set (i := 1) (a' := moreE e x) (u := .int .u64 (e.2.1 + x)) hi (by simp [kEn]) rfl
  refine ⟨⟨?_, ?_, h.k1⟩, s.mono fun c e => ⟨by omega, by omega⟩⟩
  · show BoxC _ _ _ _ #[.int .i64 t.n, .slice _ (t.l.set i (moreE e x)).length c] _
    rw [List.length_set]; exact b1
  · show OwnKc kEn _ _ _ (.slice _ (t.l.set i (moreE e x)).length c) (t.l.set i (moreE e x))
    rw [List.length_set]; exact r1
set_option maxHeartbeats 2000000 in
theorem rxAdd (H : RefX col k w g t) (ht : Tidy col w) (s : ByteArray) (x : Int) (hx : 0 ≤ x ∧ x ≤ 18446744073709551615) :
    Calls Try.prog 20 #[.pointer (some ⟨g, 0, none⟩), .string s, .int .u64 x] w fun e w' => e = .returned (.int .i64 (t.add s x).1) ∧ DidRX col k w g (t.add s x).2 w' := by
  obtain ⟨hG, A, c, HB⟩ := H
  obtain ⟨n, hn⟩ : ∃ n, t.l.length = n := ⟨_, rfl⟩
  have hn6 : n ≤ 64 := by have := hG.len; have := hG.n1; omega
  have x1 : w.cell? ⟨g, 1, none⟩ = some (.slice A n c) := by rw [← hn]; exact HB.box.cell 1 rfl
  have R : RdG kEn w A n c t.l := by rw [← hn]; exact HB.row.own.reads
  have hPl := place_any R (by omega) s
  unfold placeI at hPl
  cases hp : placeE t.l s with
  | none =>
    rw [hp] at hPl
    rw [addX_none hp]
    have HD := Lib.hid (fun (W : World) (hb : Below w.heap.size w W) => show DidRX col k w g t W from ⟨col, ⟨hG, A, c, HB.below ht hb⟩, StepC.below ht hb⟩)
    clear HB hG R hp
    go_enter Try.func20, Try.ntmps20
    go_wp2_with fail
    refine hPl.mono ?_
    rintro e w1 ⟨rfl, b1⟩
    go_wp2
    go_ret
    exact ⟨rfl, HD.out _ b1⟩
  | some i =>
    rw [hp] at hPl
    obtain ⟨e0, he0, hes, hil⟩ := placeE_some hp
    obtain ⟨p1, p2, p3, p4, p5, _⟩ := hG.ct (List.mem_of_getElem? he0)
    unfold topX at p3 p4 p5
    have hw1 : IntKind.u64.wrap (e0.2.1 + e0.2.2) = e0.2.1 + e0.2.2 := IntWalk.u64_in _ ⟨by omega, by omega⟩
    obtain ⟨y, hy⟩ : ∃ y, e0.2.1 + e0.2.2 = y := ⟨_, rfl⟩
    have hct : ctE e0 = y := hy
    have hF := fun W => rfits_any y x W ⟨by omega, by omega⟩ hx
    rw [hy] at hw1
    have hiI : ¬ (i : Int) < 0 := by omega
    have hin : (i : Int) < (n : Int) := by omega
    obtain ⟨b, rfl, _⟩ : ∃ b, A = some ⟨b, 0, none⟩ ∧ b < w.heap.size := HB.row.own.head (Nat.lt_of_le_of_lt (Nat.zero_le i) hil)
    have hcap := R.cap
    have hmax := R.max
    cases hf : fitsB y x with
    | false =>
      rw [addX_over hp he0 (by rw [hct]; exact hf)]
      have HD := Lib.hid (fun (W : World) (hb : Below w.heap.size w W) => show DidRX col k w g t W from ⟨col, ⟨hG, _, c, HB.below ht hb⟩, StepC.below ht hb⟩)
      have HR := Lib.hid R
      clear HB hG R hp hes
      go_enter Try.func20, Try.ntmps20
      go_wp2_with fail
      refine hPl.mono ?_
      rintro e w1 ⟨rfl, b1⟩
      have z := (cellB x1 b1).1
      obtain ⟨b', o', e', hb', he', q0, q1, q2⟩ := (HR.out.below b1).atEn (j := i) (by omega)
      injection hb' with hb'; injection hb' with h1 h2; subst h1 h2
      rw [he0] at he'; injection he' with he'; subst he'
      simp only [Nat.zero_add] at q0 q1 q2
      have HB1 := Lib.hid b1
      clear b1 he0 hPl HR
      go_wp2
      go_quiet ((go_at_call 38; exact Calls.quiet_of_same ((hF _).mono fun e w' h => ⟨h.1, h.2.symm⟩)))
      rw [hf]
      go_wp2
      go_ret
      exact ⟨rfl, HD.out _ (below_drewN HB1.out _)⟩
    | true =>
      rw [addX_ok hp he0 (by rw [hct]; exact hf)]
      have hGs := hG.set he0 hx.1 (by rw [hct]; exact hf)
      have hfl : y + x ≤ 9223372036854775808 := fits_le hf
      have hw2 : IntKind.u64.wrap (e0.2.1 + x) = e0.2.1 + x := IntWalk.u64_in _ ⟨by omega, by omega⟩
      have HD := Lib.hid (fun (W : World) (hb : Below w.heap.size w W) => show DidRX col k w g _ _ from
        ⟨col, ⟨hGs, _, c, ((HB.below ht hb).bump (ht.size hb.size) he0 x).1⟩, (StepC.below ht hb).trans ((HB.below ht hb).bump (ht.size hb.size) he0 x).2⟩)
      have HFz := Lib.hid (fun (W : World) (hb : Below w.heap.size w W) => (HB.below ht hb).row.own.free (i * 3 + 1))
      have HR := Lib.hid R
      obtain ⟨v, hv⟩ : ∃ v, e0.2.1 + x = v := ⟨_, rfl⟩
      rw [hv] at hw2 HD
      clear HB hG R hp hes hGs
      go_enter Try.func20, Try.ntmps20
      go_wp2_with fail
      refine hPl.mono ?_
      rintro e w1 ⟨rfl, b1⟩
      have z := (cellB x1 b1).1
      obtain ⟨b', o', e', hb', he', q0, q1, q2⟩ := (HR.out.below b1).atEn (j := i) (by omega)
      injection hb' with hb'; injection hb' with h1 h2; subst h1 h2
      rw [he0] at he'; injection he' with he'; subst he'
      simp only [Nat.zero_add] at q0 q1 q2
      have fz := HFz.out _ b1
      have HB1 := Lib.hid b1
      clear b1 he0 hPl HR HFz
      go_wp2
      go_quiet ((go_at_call 38; exact Calls.quiet_of_same ((hF _).mono fun e w' h => ⟨h.1, h.2.symm⟩)))
      rw [hf]
      go_wp2
      go_ret
      exact ⟨rfl, HD.out _ (below_drewN HB1.out _)⟩
end
end Go.Proofs.Ytjkomnjkolggnaa
