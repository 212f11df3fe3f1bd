/- The specified table (heavykeysref08.Map) in memory: Keys, NewMap; SameTexts. Conditions: none beyond those typed. -/
import Derived.Test.YtdifkcjciblkpaaMref3
import Derived.Test.YtdifkcjciblkpaaUrow
namespace Go.Proofs.Ytdifkcjciblkpaa
open Go.ChangeShapes Go.WideShapes Go.ChangeAt Go.RowKit
set_option linter.unusedVariables false
set_option linter.unusedSimpArgs false
set_option maxRecDepth 100000

section
variable {P : Nat → Prop} {col col' : Col} {w w' : World} {k g n : Nat} {m : MSt Int} {vK vV v' : Value} {s : ByteArray} {i : Nat}
/-- A row of texts in new memory comes back. -/
def KeysOut (w : World) (l : List ByteArray) (e : Ending) (w' : World) : Prop := ∃ A c, e = .returned (.slice A l.length c) ∧ RdG kT w' A l.length c l ∧ (∀ b o sp, A = some ⟨b, o, sp⟩ → w.heap.size ≤ b) ∧ Below w.heap.size w w'
set_option maxHeartbeats 1000000 in
theorem rmKeys (H : RefM col k w g m) :
    Calls Try.prog 24 #[.pointer (some ⟨g, 0, none⟩)] w (KeysOut w m.keys) := by
  obtain ⟨hG, vK, vV, H⟩ := H
  have hlen := hG.len
  have hn8 := hG.n8
  obtain ⟨A, c, rfl, hR, _⟩ := H.ks.own.form (keys_len m)
  have x1 : w.cell? ⟨g, 1, none⟩ = some (.slice A m.l.length c) := H.box.cell 1 rfl
  have b1 : Below w.heap.size w (w.alloc (.cells #[] 9)) := (Below.refl _ _).alloc (Nat.le_refl _) _
  have y1 : (w.alloc (.cells #[] 9)).cell? ⟨g, 1, none⟩ = some (.slice A m.l.length c) := (cellB x1 b1).1
  have R1 := hR.below b1
  have O1 : OwnK kT (w.alloc (.cells #[] 9)) (.slice (some ⟨w.heap.size, 0, none⟩) 0 0) [] := OwnK.empty' kT rfl rfl
  have N1 : New w (.slice (some ⟨w.heap.size, 0, none⟩) 0 0) := New.lit (Nat.le_refl _)
  have hby : ([] : List ByteArray).length + m.l.length ≤ 1000000000 := by simp; omega
  have hl2 : ([] ++ m.keys).length = m.l.length := by simp [keys_len]
  have hk := Lib.hid (keys_len m)
  clear H hG hR
  go_enter Try.func24, Try.ntmps24
  go_wp2_with (at_builtin; refine wpList_appK kT rfl (.tmp 3) (.tmp 7) rfl _ [] rfl A m.l.length c m.keys rfl O1 R1 hby ?_; intro v2 w2 O2 G2 hat2; have N2 : New w v2 := New.app N1 b1 hat2; have B2 := b1.grown G2 b1.size (fun q hq => N1 q hq); obtain ⟨A2, c2, rfl, R2, _⟩ := O2.form hl2)
  go_ret
  unfold KeysOut
  rw [hk.out]
  exact ⟨A2, c2, rfl, by simpa using R2, fun b o sp e => N2 b (by subst e; rfl), B2⟩
set_option maxHeartbeats 400000 in
theorem sameTexts_yes (A A' : Option Addr) (n c c' : Nat) (l : List ByteArray) (w : World) (h : RdG kT w A n c l) (h' : RdG kT w A' n c' l) :
    Calls Try.prog 23 #[.slice A n c, .slice A' n c'] w fun e w' => e = .returned (.bool true) ∧ Below w.heap.size w w' := by
  have hcap := h.cap
  have hmax := h.max
  have hcap' := h'.cap
  have hmax' := h'.max
  go_enter Try.func23, Try.ntmps23
  go_wp2
  go_loopw [13] (fun i wr => ∃ k j : Nat, k ≤ n ∧ i = .int .i64 k ∧ wr = w.drewN j) (fun i _ => n - (intOf i).toNat)
  case atStart => exact ⟨0, 0, Nat.zero_le _, rfl, rfl⟩
  case round =>
    obtain ⟨k, j, hk, rfl, rfl⟩ := hrel
    by_cases hlt : k < n
    · obtain ⟨b, o, p, rfl, hp, _, _, c0⟩ := h.at_ hlt
      obtain ⟨b', o', p', rfl, hp', _, _, c0'⟩ := h'.at_ hlt
      rw [hp] at hp'; injection hp' with hp'; subst hp'
      have d0 : w.cell? ⟨b, o + k, none⟩ = some (.string p) := by have := c0 0 (.string p) rfl; simpa [kT] using this
      have d0' : w.cell? ⟨b', o' + k, none⟩ = some (.string p) := by have := c0' 0 (.string p) rfl; simpa [kT] using this
      have hki : (k : Int) < (n : Int) := by omega
      have hne : (p.toList != p.toList) = false := by simp
      clear c0 c0' hp
      go_wp2
      go_quiet (fail)
      go_wp2
      go_roundw
      case rel => exact ⟨k + 1, _, by omega, by go_num, rfl⟩
      case measure => (simp [intOf] <;> omega)
    · have hki : ¬ (k : Int) < (n : Int) := by omega
      go_wp2
      go_ret
      exact ⟨rfl, below_drewN (Below.refl _ _) j⟩
def mapE (n : Int) (t : Nat) : Int := if n < 1 ∨ 8192 < n then 1 else tabE t
def NewRM (col : Col) (k : Nat) (n : Int) (t : Nat) (w : World) (e : Ending) (w' : World) : Prop :=
  (mapE n t = 0 ∧ ∃ g, e = .returned (.tuple #[.pointer (some ⟨g, 0, none⟩), .int .i64 0]) ∧ ∃ col', RefM col' k w' g (newM Int n.toNat) ∧ StepC (Rng k) col w col' w') ∨ (mapE n t ≠ 0 ∧ e = .returned (.tuple #[.pointer none, .int .i64 (mapE n t)]) ∧ Below w.heap.size w w')
theorem new_rm (ht : Tidy col w) (hk : 1 ≤ k) {n : Nat} (hG : GoodM (newM Int n)) :
    ∃ col', RefM col' k (w.alloc (.cells #[.int .i64 n, .slice none 0 0, .slice none 0 0] 65)) w.heap.size (newM Int n) ∧ StepC (Rng k) col w col' (w.alloc (.cells #[.int .i64 n, .slice none 0 0, .slice none 0 0] 65)) :=
  ⟨dye col (some w.heap.size) k, ⟨hG, _, _, ⟨heap_alloc_new w _, dye_of⟩, OwnKc.nil kT _ _ _, OwnKc.nil kI _ _ _, hk⟩, StepC.newRow ht ((Below.refl _ _).alloc (Nat.le_refl _) _) fun b e => by injection e with e; subst e; exact ⟨Nat.le_refl _, by simp⟩⟩
set_option maxHeartbeats 1000000 in
theorem rmNew (ht : Tidy col w) (hk : 1 ≤ k) (n : Int) (hn : -9223372036854775808 ≤ n ∧ n ≤ 9223372036854775807) (A : Option Addr) (t c : Nat) (htm : t ≤ 9223372036854775807) :
    Calls Try.prog 11 #[.int .i64 n, .slice A t c] w (NewRM col k n t w) := by
  obtain ⟨i1, i2⟩ := hn
  by_cases h1 : n < 1
  · have HE := Lib.hid (show mapE n t = 1 from if_pos (.inl h1))
    go_enter Try.func11, Try.ntmps11
    go_wp2
    go_ret2
    exact .inr ⟨by rw [HE.out]; decide, by rw [HE.out]; rfl, Below.refl _ _⟩
  by_cases h2 : 8192 < n
  · have HE := Lib.hid (show mapE n t = 1 from if_pos (.inr h2))
    go_enter Try.func11, Try.ntmps11
    go_wp2
    go_ret2
    exact .inr ⟨by rw [HE.out]; decide, by rw [HE.out]; rfl, Below.refl _ _⟩
  obtain ⟨q, hq⟩ : ∃ q : Nat, n = q := ⟨n.toNat, by omega⟩
  subst hq
  by_cases h3 : t = 16
  · have HE := Lib.hid (show mapE q t = 0 by unfold mapE; rw [if_neg (by omega)]; exact if_pos h3)
    have HT := Lib.hid (show tabE t = 0 from if_pos h3)
    have HG := Lib.hid (newM_good (α := Int) (n := q) (by omega) (by omega))
    have HM := Lib.hid (new_rm (n := q) ht hk HG.out)
    clear h3
    go_enter Try.func11, Try.ntmps11
    go_wp2_with fail
    refine (rtable_any A t c w htm).mono ?_
    rintro e w1 ⟨rfl, rfl⟩
    rw [HT.out]
    go_wp2
    go_ret2
    obtain ⟨col', hM, hS⟩ := HM.out
    exact .inl ⟨HE.out, _, rfl, col', hM, hS⟩
  · have HE := Lib.hid (show mapE q t = 11 by unfold mapE; rw [if_neg (by omega)]; exact if_neg h3)
    have HT := Lib.hid (show tabE t = 11 from if_neg h3)
    clear h3
    go_enter Try.func11, Try.ntmps11
    go_wp2_with fail
    refine (rtable_any A t c w htm).mono ?_
    rintro e w1 ⟨rfl, rfl⟩
    rw [HT.out]
    go_wp2
    go_ret2
    exact .inr ⟨by rw [HE.out]; decide, by rw [HE.out]; rfl, Below.refl _ _⟩
end
end Go.Proofs.Ytdifkcjciblkpaa
