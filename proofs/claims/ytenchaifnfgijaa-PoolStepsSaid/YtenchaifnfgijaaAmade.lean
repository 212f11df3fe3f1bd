/- Deck.Classes: classes of a deck's making are accepted. Conditions: none beyond those typed. -/
import Derived.Test.YtenchaifnfgijaaAm
import Derived.Test.YtenchaifnfgijaaEdeck
namespace Go.Proofs.Ytenchaifnfgijaa
open Go.ChangeShapes Go.WideShapes Go.ChangeAt Go.RowKit
set_option linter.unusedVariables false
set_option linter.unusedSimpArgs false
set_option maxRecDepth 100000

theorem chk_snoc : ∀ (L : List (Int × Int)) (last s : Int) (x : Int × Int), chkC last L = 0 → (∀ y ∈ L, y.1 ≤ s) → last ≤ s → s < x.1 → 1 ≤ x.1 ∧ x.1 ≤ 4096 ∧ 0 ≤ x.2 ∧ x.2 ≤ 65536 → chkC last (L ++ [x]) = 0
  | [], last, s, x, _, _, h1, h2, h3 => by
    show chkC last [x] = 0
    unfold chkC
    rw [if_neg (by omega), if_neg (by omega)]; rfl
  | y :: r, last, s, x, h, hy, h1, h2, h3 => by
    show chkC last (y :: (r ++ [x])) = 0
    unfold chkC at h ⊢
    split at h
    · simp at h
    · rename_i hc
      rw [if_neg hc]
      split at h
      · simp at h
      · rename_i hd
        rw [if_neg hd]
        exact chk_snoc r y.1 s x h (fun z hz => hy z (by simp [hz])) (hy y (by simp)) h2 h3
/-- Classes of a deck's making: accepted; few and small. -/
structure MadeL (L : List (Int × Int)) : Prop where
  ok : clsE L = 0
  n1 : 1 ≤ L.length
  n4 : L.length ≤ 4
  sm : ∀ x ∈ L, 1 ≤ x.1 ∧ x.1 ≤ 160 ∧ 0 ≤ x.2 ∧ x.2 ≤ 4
theorem Dk.far' {B W W' : World} {g n c : Nat} {A : Option Addr} {row : Option Nat} {X : Nat} (h : Dk B W g A n c) (hg : W.grownBy W' row) (hr : ∀ q, row = some q → X ≤ q) (hl : g < X) : Dk B W' g A n c := h.far hg fun q hq => by have := hr q hq; omega
/-- Classes come back, in new memory, and the deck; nothing else has turned. -/
def ClsDk (B : World) (g : Nat) (A : Option Addr) (n c : Nat) (W : World) (e : Ending) (W' : World) : Prop :=
  ∃ A' m c' L, e = .returned (.slice A' m c') ∧ RdG kC W' A' m c' L ∧ (∀ b o sp, A' = some ⟨b, o, sp⟩ → W.heap.size ≤ b) ∧ MadeL L ∧ Dk B W' g A n c ∧ W.grownBy W' (some g)
/-- What stands in a round. -/
structure ClsR (B W : World) (g : Nat) (A : Option Addr) (n c q s : Nat) (L : List (Int × Int)) (v : Value) (W' : World) : Prop where
  own : OwnK kC W' v L
  new : New W v
  dk : Dk B W' g A n c
  gr : W.grownBy W' (some g)
  chk : chkC 0 L = 0
  cnt : L.length + q ≤ 4 ∧ 1 ≤ L.length + q
  sz : s ≤ 40 * L.length
  le : ∀ x ∈ L, 1 ≤ x.1 ∧ x.1 ≤ s ∧ 0 ≤ x.2 ∧ x.2 ≤ 4
set_option maxHeartbeats 1000000 in
theorem classes_dk {B W : World} {g n c : Nat} {A : Option Addr} (h : Dk B W g A n c) : Calls Try.prog 8 #[.pointer (some ⟨g, 0, none⟩)] W (ClsDk B g A n c W) := by
  have hgl := h.lt
  go_enter Try.func8, Try.ntmps8
  go_wp2_with fail
  refine (next_dk h 4 (by omega) (by omega)).mono ?_
  rintro e W1 ⟨r1, hr1, rfl, D1, g1⟩
  go_wp2
  go_loopw [3, 4, 5] (fun v s k wr => ∃ (q z : Nat) (L : List (Int × Int)), s = .int .i64 z ∧ k = .int .i64 q ∧ ClsR B W g A n c q z L v wr) (fun _ _ k _ => (intOf k).toNat)
  case atStart => exact ⟨r1 + 1, 0, [], rfl, by go_num, OwnK.nil kC W1, fun q hq => by simp [Value.ownBlock] at hq, D1, g1, rfl, by simp; omega, by simp, by simp⟩
  case round =>
    clear D1 g1 hr1 h
    obtain ⟨q, z, L, rfl, rfl, H⟩ := hrel
    by_cases hq : q = 0
    · subst hq
      obtain ⟨A', c', rfl, hr, _⟩ := H.own.form rfl
      have hH := Lib.hid H
      clear H
      go_wp2
      go_ret
      refine ⟨_, _, _, L, rfl, hr, fun b o sp e => hH.out.new b (by rw [e]; rfl), ?_, hH.out.dk, hH.out.gr⟩
      have hc := hH.out.cnt
      have hs := hH.out.sz
      exact ⟨by unfold clsE; rw [if_neg (by omega)]; exact hH.out.chk, by omega, by omega, fun x hx => by have := hH.out.le x hx; omega⟩
    · have hq0 : (0 : Int) < (q : Int) := by omega
      have hcnt := H.cnt
      have hsz := H.sz
      have hz4 : (z : Int) ≤ 160 := by omega
      go_wp2_with fail
      refine (next_dk H.dk 40 (by omega) (by omega)).mono ?_
      rintro e W2 ⟨r2, hr2, rfl, D2, g2⟩
      go_wp2_with fail
      refine (next_dk D2 5 (by omega) (by omega)).mono ?_
      rintro e W3 ⟨r3, hr3, rfl, D3, g3⟩
      have g23 := g2.trans g3
      have O3 := H.own.grown g23 (fun b hb e => by injection e with e; subst e; have := H.new _ hb; omega)
      have hG3 := H.gr.trans g23
      have hH := Lib.hid H
      have hb : L.length + 1 ≤ 1000000000 := by omega
      have hle := hH.out.le
      have hck := hH.out.chk
      have C4 : RdG kC (W3.alloc (.cells #[.int .i64 ((z : Int) + (1 + (r2 : Int))), .int .i64 (r3 : Int)] 61)) (some ⟨W3.heap.size, 0, none⟩) 1 1 [((z : Int) + (1 + (r2 : Int)), (r3 : Int))] := RdG.one' kC rfl ((z : Int) + (1 + (r2 : Int)), (r3 : Int))
      have B4 : Below W3.heap.size W3 (W3.alloc (.cells #[.int .i64 ((z : Int) + (1 + (r2 : Int))), .int .i64 (r3 : Int)] 61)) := (Below.refl _ _).alloc (Nat.le_refl _) _
      have O4 := O3.below B4
      have D4 := D3.below B4
      have hG4 := grown_on hG3 (World.grownBy_alloc W3 (.cells #[.int .i64 ((z : Int) + (1 + (r2 : Int))), .int .i64 (r3 : Int)] 61) none) (fun j e => by cases e)
      have hnew := hH.out.new
      have HS := Lib.hid (chk_snoc L 0 z ((z : Int) + (1 + (r2 : Int)), (r3 : Int)) hck (fun y hy => (hle y hy).2.1) (by omega) (by show (z : Int) < z + (1 + (r2 : Int)); omega) (by simp only; omega))
      have HLE := Lib.hid (show ∀ y ∈ L ++ [((z : Int) + (1 + (r2 : Int)), (r3 : Int))], 1 ≤ y.1 ∧ y.1 ≤ ((z + (1 + r2) : Nat) : Int) ∧ 0 ≤ y.2 ∧ y.2 ≤ 4 from fun y hy => by
        rcases List.mem_append.1 hy with hy | hy
        · have := hle y hy; omega
        · rw [List.mem_singleton.1 hy]; simp only; omega)
      have hDl := D4.lt
      have hln : (L ++ [((z : Int) + (1 + (r2 : Int)), (r3 : Int))]).length = L.length + 1 := by simp
      have hgd : W.heap.size ≤ W.heap.size := Nat.le_refl _
      clear H D2 g2 g3 g23 hle hck O3 D3 hG3 hH
      go_wp2_with (at_builtin; refine wpList_appK kC rfl (.tmp 18) (.tmp 23) rfl u3 L rfl _ 1 1 [((z : Int) + (1 + (r2 : Int)), (r3 : Int))] rfl O4 C4 hb ?_; intro v5 W5 O5 G5 hat5; obtain ⟨A5, c5, rfl, _, _⟩ := O5.form hln)
      have hqq : ∃ q' : Nat, q = q' + 1 := ⟨q - 1, by omega⟩
      obtain ⟨q', rfl⟩ := hqq
      go_roundw
      case rel => exact ⟨q', z + (1 + r2), _, by go_num, by go_num, O5, fun b hb => by
        rcases hat5 with e | e
        · exact hnew b (e.symm.trans hb)
        · rw [e] at hb; injection hb with hb; have := hG4.size; omega, D4.far' G5 hnew hgl, grown_on hG4 G5 hnew, HS.out, by simp; omega, by simp; omega, HLE.out⟩
      case measure => (simp [intOf] <;> omega)
end Go.Proofs.Ytenchaifnfgijaa
