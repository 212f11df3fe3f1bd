/- A row of lines: two neighbouring runs change places. Conditions: none beyond those typed. -/
import Derived.Test.YtbdafhephmoedaaLnrow
namespace Go.Proofs.Ytbdafhephmoedaa
open Go.ChangeShapes Go.WideShapes Go.ChangeAt Go.RowKit
set_option linter.unusedVariables false
set_option linter.unusedSimpArgs false
set_option maxRecDepth 100000

/-- Where a rotation stands. -/
structure RotL (w : World) (g n c m : Nat) (G : List En) (i j : Nat) (P X Y Q : List En) (W : World) : Prop where
  li : X.length = i
  lj : Y.length = j
  lp : P.length + i = m
  i0 : 0 < i
  j0 : 0 < j
  row : RwL w g n c (P ++ X ++ Y ++ Q) W
  goal : P ++ Y ++ X ++ Q = G
section
variable {w W W' : World} {g n c m i j : Nat} {G P X Y Q L' : List En}
theorem RotL.left (h : RotL w g n c m G i j P X Y Q W) (hji : j < i) (hS : SwR (P ++ X ++ Y ++ Q) (m - i) m j L') (hR : RwL w g n c L' W') : RotL w g n c m G (i - j) j (P ++ Y) (X.drop j) (X.take j) Q W' := by
  obtain ⟨li, lj, lp, i0, j0, row, goal⟩ := h
  have hX : X = X.take j ++ X.drop j := (List.take_append_drop j X).symm
  have h1 : (X.take j).length = j := by rw [List.length_take]; omega
  have h2 : (X.drop j).length = i - j := by rw [List.length_drop]; omega
  have e : P ++ X ++ Y ++ Q = P ++ X.take j ++ X.drop j ++ Y ++ Q := by rw [List.append_assoc P (X.take j), ← hX]
  rw [e, show m - i = P.length by omega] at hS
  have hS2 : SwR (P ++ X.take j ++ X.drop j ++ Y ++ Q) P.length (P.length + (X.take j).length + (X.drop j).length) (X.take j).length L' := by
    rw [h1, h2, show P.length + j + (i - j) = m by omega]; exact hS
  have hd := hS2.done (by rw [h1]; exact lj)
  subst hd
  refine ⟨h2, h1, by rw [List.length_append]; omega, by omega, j0, ?_, ?_⟩
  · exact hR
  · rw [← goal]
    rw [show P ++ Y ++ X.take j ++ X.drop j ++ Q = P ++ Y ++ (X.take j ++ X.drop j) ++ Q by simp only [List.append_assoc], ← hX]
theorem RotL.right (h : RotL w g n c m G i j P X Y Q W) (hij : i < j) (hS : SwR (P ++ X ++ Y ++ Q) (m - i) (m + j - i) i L') (hR : RwL w g n c L' W') : RotL w g n c m G i (j - i) P (Y.drop (j - i)) (Y.take (j - i)) (X ++ Q) W' := by
  obtain ⟨li, lj, lp, i0, j0, row, goal⟩ := h
  have hY : Y = Y.take (j - i) ++ Y.drop (j - i) := (List.take_append_drop (j - i) Y).symm
  have h1 : (Y.take (j - i)).length = j - i := by rw [List.length_take]; omega
  have h2 : (Y.drop (j - i)).length = i := by rw [List.length_drop]; omega
  have e : P ++ X ++ Y ++ Q = P ++ X ++ Y.take (j - i) ++ Y.drop (j - i) ++ Q := by rw [List.append_assoc (P ++ X) (Y.take (j - i)), ← hY]
  rw [e, show m - i = P.length by omega] at hS
  have hS2 : SwR (P ++ X ++ Y.take (j - i) ++ Y.drop (j - i) ++ Q) P.length (P.length + X.length + (Y.take (j - i)).length) X.length L' := by
    rw [h1, li, show P.length + i + (j - i) = m + j - i by omega]; exact hS
  have hd := hS2.done (by rw [h2]; exact li.symm)
  subst hd
  refine ⟨h2, h1, lp, i0, by omega, ?_, ?_⟩
  · have : P ++ Y.drop (j - i) ++ Y.take (j - i) ++ (X ++ Q) = P ++ Y.drop (j - i) ++ Y.take (j - i) ++ X ++ Q := by simp only [List.append_assoc]
    rw [this]; exact hR
  · rw [← goal]
    rw [show P ++ Y.take (j - i) ++ Y.drop (j - i) ++ (X ++ Q) = P ++ (Y.take (j - i) ++ Y.drop (j - i)) ++ X ++ Q by simp only [List.append_assoc], ← hY]
theorem RotL.last (h : RotL w g n c m G i i P X Y Q W) (hS : SwR (P ++ X ++ Y ++ Q) (m - i) m i L') (hR : RwL w g n c L' W') : RwL w g n c G W' := by
  obtain ⟨li, lj, lp, i0, j0, row, goal⟩ := h
  rw [show P ++ X ++ Y ++ Q = P ++ X ++ [] ++ Y ++ Q by simp, show m - i = P.length by omega] at hS
  have hS2 : SwR (P ++ X ++ [] ++ Y ++ Q) P.length (P.length + X.length + ([] : List En).length) X.length L' := by
    rw [li, show P.length + i + ([] : List En).length = m by simp; omega]; exact hS
  have hd := hS2.done (by omega)
  rw [hd, show P ++ Y ++ [] ++ X ++ Q = P ++ Y ++ X ++ Q by simp, goal] at hR
  exact hR
theorem RotL.fits (h : RotL w g n c m G i j P X Y Q W) : m + j ≤ n := by
  have := h.row.len
  simp only [List.length_append] at this
  have := h.li
  have := h.lj
  have := h.lp
  omega
end
set_option maxHeartbeats 2000000 in
theorem rotate_any {w : World} {g n c a m b : Nat} {P X Y Q : List En} {f : Value} (hO : OwnK kLn w (.slice (some ⟨g, 0, none⟩) n c) (P ++ X ++ Y ++ Q)) (hP : P.length = a) (hX : a + X.length = m) (hY : m + Y.length = b) (hx0 : 0 < X.length) (hy0 : 0 < Y.length) (hn : n ≤ 1000000) :
    Calls Try.prog 40 #[.slice (some ⟨g, 0, none⟩) n c, .int .i64 (a : Int), .int .i64 (m : Int), .int .i64 (b : Int), f] w
      fun e w' => e = .returned (.tuple #[]) ∧ RwL w g n c (P ++ Y ++ X ++ Q) w' := by
  have hlen := (RwL.start hO).len
  simp only [List.length_append] at hlen
  have H0 := Lib.hid (show RotL w g n c m (P ++ Y ++ X ++ Q) (m - a) (b - m) P X Y Q w from ⟨by omega, by omega, by omega, by omega, by omega, RwL.start hO, rfl⟩)
  have hma : IntKind.i64.wrap ((m : Int) - (a : Int)) = ((m - a : Nat) : Int) := by rw [IntKind.wrap_i64]; omega
  have hbm : IntKind.i64.wrap ((b : Int) - (m : Int)) = ((b - m : Nat) : Int) := by rw [IntKind.wrap_i64]; omega
  obtain ⟨i0, hi0⟩ : ∃ i0, m - a = i0 := ⟨_, rfl⟩
  obtain ⟨j0, hj0⟩ : ∃ j0, b - m = j0 := ⟨_, rfl⟩
  rw [hi0] at hma H0
  rw [hj0] at hbm H0
  generalize P ++ Y ++ X ++ Q = G at *
  clear hO hP hX hY hx0 hy0 hi0 hj0 hlen
  go_enter Try.func40, Try.ntmps40
  go_wp2
  go_loopw [10, 11] (fun iv jv wr => ∃ (i j : Nat) (P X Y Q : List En), iv = .int .i64 (i : Int) ∧ jv = .int .i64 (j : Int) ∧ RotL w g n c m G i j P X Y Q wr) (fun iv jv _ => (intOf iv).toNat + (intOf jv).toNat)
  case atStart => exact ⟨i0, j0, _, _, _, _, rfl, rfl, H0.out⟩
  case round =>
    clear H0 hma hbm
    obtain ⟨i, j, P, X, Y, Q, rfl, rfl, R⟩ := hrel
    have hf := R.fits
    have hlp := R.lp
    have hi := R.i0
    have hj := R.j0
    obtain ⟨p, hp⟩ : ∃ p, m - i = p := ⟨_, rfl⟩
    have hwp : IntKind.i64.wrap ((m : Int) - (i : Int)) = (p : Int) := by rw [IntKind.wrap_i64]; omega
    rcases Nat.lt_trichotomy i j with h | h | h
    · obtain ⟨q, hq⟩ : ∃ q, m + j - i = q := ⟨_, rfl⟩
      have hw1 : IntKind.i64.wrap ((m : Int) + (j : Int)) = ((m + j : Nat) : Int) := by rw [IntKind.wrap_i64]; omega
      have hw2 : IntKind.i64.wrap (((m + j : Nat) : Int) - (i : Int)) = (q : Int) := by rw [IntKind.wrap_i64]; omega
      obtain ⟨j', hj'⟩ : ∃ j', j - i = j' := ⟨_, rfl⟩
      have hw3 : IntKind.i64.wrap ((j : Int) - (i : Int)) = (j' : Int) := by rw [IntKind.wrap_i64]; omega
      have hne : ((i : Int) != (j : Int)) = true := by simp; omega
      have hgt : ¬ (i : Int) > (j : Int) := by omega
      have hC := swapRange_any (a := p) (b := q) (m := i) (f := f) R.row.own (by omega) (by omega) hn
      have HR := Lib.hid (fun (L' : List En) (W' : World) (hS : SwR (P ++ X ++ Y ++ Q) p q i L') (hR : RwL wr g n c L' W') => (R.right h (by rw [hp, hq]; exact hS) (R.row.then_ hR)))
      have hlt2 := h
      simp only [hj'] at HR
      obtain ⟨mj, hmj⟩ : ∃ mj, m + j = mj := ⟨_, rfl⟩
      rw [hmj] at hw1 hw2
      clear R hp hq hmj hf
      go_wp2_with fail
      refine hC.mono ?_
      rintro e w5 ⟨rfl, L', hS, hR⟩
      have HR5 := Lib.hid (HR.out L' w5 hS hR)
      clear hC hS hR HR
      go_wp2
      go_roundw
      case rel => exact ⟨i, j', _, _, _, _, rfl, by go_num, HR5.out⟩
      case measure => (simp [intOf] <;> omega)
    · subst h
      have hne : ((i : Int) != (i : Int)) = false := by simp
      have hC := swapRange_any (a := p) (b := m) (m := i) (f := f) R.row.own (by omega) (by omega) hn
      have HR := Lib.hid (fun (L' : List En) (W' : World) (hS : SwR (P ++ X ++ Y ++ Q) p m i L') (hR : RwL wr g n c L' W') => (R.last (by rw [hp]; exact hS) (R.row.then_ hR)))
      clear R hp hf
      go_wp2_with fail
      refine hC.mono ?_
      rintro e w5 ⟨rfl, L', hS, hR⟩
      have HR5 := Lib.hid (HR.out L' w5 hS hR)
      clear hC hS hR HR
      go_wp2
      go_end0
      exact ⟨rfl, HR5.out⟩
    · obtain ⟨i', hi'⟩ : ∃ i', i - j = i' := ⟨_, rfl⟩
      have hw3 : IntKind.i64.wrap ((i : Int) - (j : Int)) = (i' : Int) := by rw [IntKind.wrap_i64]; omega
      have hne : ((i : Int) != (j : Int)) = true := by simp; omega
      have hgt : (i : Int) > (j : Int) := by omega
      have hC := swapRange_any (a := p) (b := m) (m := j) (f := f) R.row.own (by omega) (by omega) hn
      have HR := Lib.hid (fun (L' : List En) (W' : World) (hS : SwR (P ++ X ++ Y ++ Q) p m j L') (hR : RwL wr g n c L' W') => (R.left h (by rw [hp]; exact hS) (R.row.then_ hR)))
      simp only [hi'] at HR
      clear R hp hf
      go_wp2_with fail
      refine hC.mono ?_
      rintro e w5 ⟨rfl, L', hS, hR⟩
      have HR5 := Lib.hid (HR.out L' w5 hS hR)
      clear hC hS hR HR
      go_wp2
      go_roundw
      case rel => exact ⟨i', j, _, _, _, _, by go_num, rfl, HR5.out⟩
      case measure => (simp [intOf] <;> omega)
end Go.Proofs.Ytbdafhephmoedaa
