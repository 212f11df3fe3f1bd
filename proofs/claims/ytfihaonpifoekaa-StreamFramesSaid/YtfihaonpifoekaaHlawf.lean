/- heavykeyslaw06.StreamFrames returns true, whatever the input. Conditions: none beyond those typed. -/
import Derived.Test.YtfihaonpifoekaaHlaws
import Derived.Test.YtfihaonpifoekaaSlift
namespace Go.Proofs.Ytfihaonpifoekaa
open Go.ChangeShapes Go.WideShapes Go.ChangeAt Go.RowKit
set_option linter.unusedVariables false
set_option linter.unusedSimpArgs false
set_option maxRecDepth 100000

def flatX (X : List (List Int)) : List Int := X.flatMap fun x => enc x.length ++ x
def chX (X : List (List Int)) : List Ck := X.map fun x => (x, 0)
theorem flatX_len : ∀ {X : List (List Int)}, (∀ x ∈ X, x.length ≤ 200) → (flatX X).length ≤ X.length * 210
  | [], _ => by simp [flatX]
  | x :: r, h => by
    have h1 := h x (by simp)
    have h2 := flatX_len (X := r) fun y hy => h y (by simp [hy])
    have h3 := enc_ten (n := x.length) (by omega)
    have e : flatX (x :: r) = (enc x.length ++ x) ++ flatX r := by simp [flatX]
    rw [e, List.length_append, List.length_append, List.length_cons]
    omega
theorem flatX_snoc (X : List (List Int)) (x : List Int) : flatX (X ++ [x]) = flatX X ++ enc x.length ++ x := by simp [flatX]
theorem chX_snoc (X : List (List Int)) (x : List Int) : chX (X ++ [x]) = chX X ++ [(x, 0)] := by simp [chX]
/-- What stands after i bodies. -/
def FrmR (w : World) (i : Nat) (v vC : Value) (W : World) : Prop :=
  ∃ (X : List (List Int)) (R : List RawC), X.length = i ∧ (∀ x ∈ X, Byt x ∧ x.length ≤ 200) ∧ Own W w.heap.size v (flatX X) ∧ OwnC W w.heap.size vC R ∧ TellsC w R (chX X) ∧ Below w.heap.size w W
theorem OwnC.apartO {w : World} {base bb : Nat} {v vC : Value} {R : List RawC} {l : List Int} (_ : OwnC w base vC R) (hO : Own w bb v l) (h : ∀ k, vC.ownBlock = some k → base ≤ k ∧ k < bb) : vC.ownBlock = none ∨ vC.ownBlock ≠ v.ownBlock := by
  cases hv : vC.ownBlock with
  | none => exact .inl rfl
  | some k => exact .inr fun e => by have h1 := h k hv; have h2 := hO.lt k e.symm; omega
set_option maxHeartbeats 2000000 in
theorem streamFrames_walk (A : Option Addr) (n c : Nat) (w : World) (hA : ArgB w A n c) :
    Calls Try.prog 5 #[.slice A n c] w (Yes w) := by
  obtain ⟨hn1, hn2, hA3⟩ := hA
  have hmx : c ≤ 9223372036854775807 := hn2
  go_enter Try.func5, Try.ntmps5
  go_wp2
  go_loopw [3, 4, 5] (fun v vC i W => ∃ j : Nat, j ≤ n ∧ j ≤ 10 ∧ i = .int .i64 j ∧ FrmR w j v vC W) (fun _ _ i _ => 10 - (intOf i).toNat)
  case atStart => exact ⟨0, Nat.zero_le _, Nat.zero_le _, rfl, [], [], rfl, fun x hx => by simp at hx, Own.nil _ _, OwnC.nil _ _, TellsC.nil _, Below.refl _ _⟩
  case round =>
    obtain ⟨j, hj1, hj2, rfl, X, R, hX, hXb, hO, hC, hT, hb⟩ := hrel
    by_cases hend : j < n ∧ j < 10
    · obtain ⟨hjn, hj10⟩ := hend
      obtain ⟨b, o, A1, n1, c1, l1, rfl, a0, hR⟩ := hA3 j hjn
      have a0' := (hb.cell (World.block_lt_of_cell? _ _ a0)).trans a0
      obtain ⟨q, hq⟩ : ∃ q : Nat, min (n1 : Int) 200 = q := ⟨(min (n1 : Int) 200).toNat, by omega⟩
      have hqn : q ≤ n1 := by omega
      have hq2 : q ≤ 200 := by omega
      have hcap := hR.cap
      have hqni : (q : Int) ≤ (n1 : Int) := by omega
      have hqci : (q : Int) ≤ (c1 : Int) := by omega
      have hmx1 := hR.max
      have hRq := hR.take hqn
      have hxl := hRq.len
      have hxb := hRq.bytes
      generalize l1.take q = x at *
      have hji : (j : Int) < (n : Int) := by omega
      have hj1i : (j : Int) < 10 := by omega
      obtain ⟨A3, n3, c3, rfl, r3⟩ := hO.form
      have hn3 := r3.len
      have hfl := flatX_len fun x hx => (hXb x hx).2
      have O3 : Own wr.drew w.heap.size (.slice A3 n3 c3) (flatX X) := hO
      have C3 : OwnC wr.drew w.heap.size u4 R := hC
      have hb3 : Below w.heap.size w wr.drew := hb.drew
      have hz3 : w.heap.size ≤ wr.drew.heap.size := hb3.size
      clear hO hC r3
      go_wp2
      go_region
      go_wp2_with fail
      generalize wr.drew = W3 at *
      refine (rappend_own A3 n3 c3 (flatX X) (q : Int) W3 O3.reads (by omega) (by omega)).mono ?_
      rintro e w4 ⟨v4, rfl, O4, hb4⟩
      rw [Int.toNat_natCast, ← hxl] at O4
      have hb5 := below_then hb3 hb4
      have C4 := C3.below hb4
      have hclt := C3.lt
      have hvlt := O4.lt
      have R4 := hRq.below hb5
      have he3 := enc_ten (n := x.length) (by omega)
      have hl4 : (flatX X ++ enc x.length).length + q ≤ 140737488355328 := by rw [List.length_append]; omega
      clear hb3 O3 C3 a0'
      have hRl : R.length + 1 ≤ 1000000000 := by have h1 := hT.1; have h2 : (chX X).length = X.length := (by simp [chX]); omega
      go_wp2_with (first
        | (at_builtin; refine wpList_app rfl (.tmp 34) (.tmp 35) rfl W3.heap.size v4 _ rfl A1 q c1 x rfl O4 R4 hl4 hb4.size ?_; intro v5 w5 O5 G5 hat5; have C5 := C4.grown G5 (C4.apartO O4 hclt); have hb6 := Below.app hb5 (O4.weaken hz3) G5 hb5.size (Nat.le_refl _); obtain ⟨A5, n5, c5, e5, r5⟩ := O5.form; subst e5; have L8 := RawCt.one' (w := w5) (h := w5.heap.size) A1 q c1 0 rfl; have C6 := C5.alloc (.cells #[.slice A1 q c1, .int .i64 0] 41); have O6 := O5.alloc (.cells #[.slice A1 q c1, .int .i64 0] 41); have hb7 := hb6.alloc hb6.size (.cells #[.slice A1 q c1, .int .i64 0] 41))
        | (at_builtin; refine wpList_appC rfl (.tmp 37) (.tmp 40) rfl w.heap.size u4 R rfl _ 1 1 [(A1, q, c1, 0)] rfl C6 L8 hRl hb7.size ?_; intro v9 w9 C9 G9 hat9))
      have h59 : (Value.slice A5 n5 c5).ownBlock = none ∨ (Value.slice A5 n5 c5).ownBlock ≠ u4.ownBlock := by
        cases hv : (Value.slice A5 n5 c5).ownBlock with
        | none => exact .inl rfl
        | some k => exact .inr fun e => by have h1 := hclt k e.symm; have h2 := O5.lt k hv; omega
      have O9 := (O6.grown G9 h59).weaken hz3
      have hb9 := hb7.grown G9 hb7.size (fun k e => (hclt k e).1)
      have hT9 := hT.snoc (r := (A1, q, c1, 0)) (e := (x, 0)) hRq rfl
      rw [← chX_snoc] at hT9
      rw [← flatX_snoc] at O9
      go_roundw
      case rel =>
        refine ⟨j + 1, by omega, by omega, by go_num, X ++ [x], R ++ [(A1, q, c1, 0)], by simp [hX], fun y hy => ?_, O9, C9, hT9, hb9⟩
        rcases List.mem_append.1 hy with h | h
        · exact hXb y h
        · simp at h; subst h; exact ⟨hxb, by omega⟩
      case measure => (simp [intOf] <;> omega)
    · have hfl := flatX_len fun x hx => (hXb x hx).2
      obtain ⟨A3, n3, c3, rfl, r3⟩ := hO.form
      obtain ⟨Ac, cc, rfl, hrc⟩ := hC.form rfl
      have hn3 := r3.len
      have HF := Lib.hid (show feed st0 (flatX X) = (st0, chX X) from feed_frames X fun x hx => ⟨(hXb x hx).1, by have := (hXb x hx).2; omega⟩)
      have hTr := hT.below hb
      have hRc : RdC wr Ac R.length cc (chX X) := ⟨R, hrc, hTr⟩
      clear hTr hrc hO hC hT
      by_cases hjn : j < n
      · have hj10 : j = 10 := by omega
        have hj1i : ¬ (j : Int) < 10 := by omega
        go_wp2_with fail
        refine (feed_any none 0 0 st0 A3 n3 c3 (flatX X) wr sound0 (Rd.nil _ _ _ (by simp [maxLen])) r3 (fun _ => by omega)).mono ?_
        intro e w7 h7
        rw [HF.out] at h7
        obtain ⟨A7, n7, c7, C7, m7, d7, rfl, r7, q7, b7⟩ := h7.rdC
        have hb7 := below_then hb b7
        obtain rfl : m7 = R.length := by have h1 := q7.len; have h2 := hRc.len; simp only at h1; omega
        have hn7 := r7.len
        simp only [st0, List.length_nil] at hn7
        subst hn7
        have hRw := hRc.below b7
        clear h7 r3 b7 hRc hb
        go_wp2_with fail
        have hbA : Below w7.heap.size w7 (w7.alloc (.cells #[.slice A7 0 c7, .int .u64 0, .bool false] 29)) := (Below.refl _ _).alloc (Nat.le_refl _) _
        have T7 := SBox.new w7 A7 0 c7 0 false
        refine (sameChunks_yes C7 Ac R.length d7 cc (chX X) _ (q7.below hbA) (hRw.below hbA)).mono ?_
        rintro e w8 ⟨rfl, i8, rfl⟩
        have hb8 := below_drewN (below_then hb7 hbA) i8
        have r8 : Rd ((w7.alloc (.cells #[.slice A7 0 c7, .int .u64 0, .bool false] 29)).drewN i8) A7 0 c7 [] := (r7.below hbA).drewN i8
        have T8 : SBox ((w7.alloc (.cells #[.slice A7 0 c7, .int .u64 0, .bool false] 29)).drewN i8) w7.heap.size A7 0 c7 0 false := T7
        clear hRw r7 hbA T7 hb7 q7
        generalize (w7.alloc (.cells #[.slice A7 0 c7, .int .u64 0, .bool false] 29)).drewN i8 = W8 at *
        have z0 := T8.c0
        have z1 := T8.c1
        have z2 := T8.c2
        go_wp2_with fail
        refine (idle_any A7 0 c7 ([], 0, false) W8 r8).mono ?_
        rintro e w9 ⟨rfl, hb9⟩
        rw [show idleB ([], 0, false) = true from by decide]
        have hb10 := below_then hb8 hb9
        clear hb8 hb9 r8 T8 z0 z1 z2
        go_wp2_with fail
        refine (awake_any _).mono ?_
        rintro e w11 ⟨rfl, hb11⟩
        have hb12 := below_then hb10 hb11
        go_wp2
        go_ret
        exact ⟨rfl, hb12⟩
      · have hjn1 : ¬ (j : Int) < (n : Int) := by omega
        go_wp2_with fail
        refine (feed_any none 0 0 st0 A3 n3 c3 (flatX X) wr sound0 (Rd.nil _ _ _ (by simp [maxLen])) r3 (fun _ => by omega)).mono ?_
        intro e w7 h7
        rw [HF.out] at h7
        obtain ⟨A7, n7, c7, C7, m7, d7, rfl, r7, q7, b7⟩ := h7.rdC
        have hb7 := below_then hb b7
        obtain rfl : m7 = R.length := by have h1 := q7.len; have h2 := hRc.len; simp only at h1; omega
        have hn7 := r7.len
        simp only [st0, List.length_nil] at hn7
        subst hn7
        have hRw := hRc.below b7
        clear h7 r3 b7 hRc hb
        go_wp2_with fail
        have hbA : Below w7.heap.size w7 (w7.alloc (.cells #[.slice A7 0 c7, .int .u64 0, .bool false] 29)) := (Below.refl _ _).alloc (Nat.le_refl _) _
        have T7 := SBox.new w7 A7 0 c7 0 false
        refine (sameChunks_yes C7 Ac R.length d7 cc (chX X) _ (q7.below hbA) (hRw.below hbA)).mono ?_
        rintro e w8 ⟨rfl, i8, rfl⟩
        have hb8 := below_drewN (below_then hb7 hbA) i8
        have r8 : Rd ((w7.alloc (.cells #[.slice A7 0 c7, .int .u64 0, .bool false] 29)).drewN i8) A7 0 c7 [] := (r7.below hbA).drewN i8
        have T8 : SBox ((w7.alloc (.cells #[.slice A7 0 c7, .int .u64 0, .bool false] 29)).drewN i8) w7.heap.size A7 0 c7 0 false := T7
        clear hRw r7 hbA T7 hb7 q7
        generalize (w7.alloc (.cells #[.slice A7 0 c7, .int .u64 0, .bool false] 29)).drewN i8 = W8 at *
        have z0 := T8.c0
        have z1 := T8.c1
        have z2 := T8.c2
        go_wp2_with fail
        refine (idle_any A7 0 c7 ([], 0, false) W8 r8).mono ?_
        rintro e w9 ⟨rfl, hb9⟩
        rw [show idleB ([], 0, false) = true from by decide]
        have hb10 := below_then hb8 hb9
        clear hb8 hb9 r8 T8 z0 z1 z2
        go_wp2_with fail
        refine (awake_any _).mono ?_
        rintro e w11 ⟨rfl, hb11⟩
        have hb12 := below_then hb10 hb11
        go_wp2
        go_ret
        exact ⟨rfl, hb12⟩
end Go.Proofs.Ytfihaonpifoekaa
