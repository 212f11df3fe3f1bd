/- Decks of numbers: New, Next, Within. Conditions: none beyond those typed. -/
import Derived.Test.YtnmhgbdmjgejfaaTags
import Derived.Deep.RegionHeld3
namespace Go.Proofs.Ytnmhgbdmjgejfaa
open Go.ChangeShapes Go.WideShapes Go.ChangeAt Go.RowKit
set_option linter.unusedVariables false
set_option maxRecDepth 100000
set_option linter.unusedSimpArgs false

/-- The slice value '.slice A n c' reads as n numbers. -/
def RdI (w : World) (A : Option Addr) (n c : Nat) : Prop :=
  n ≤ c ∧ c ≤ maxLen ∧ ∀ j, j < n → ∃ b o z, A = some ⟨b, o, none⟩ ∧ w.cell? ⟨b, o + j, none⟩ = some (.int .i64 z) ∧ -9223372036854775808 ≤ z ∧ z ≤ 9223372036854775807
/-- A deck in block g. -/
def DeckAt (w : World) (g : Nat) (A : Option Addr) (n c a : Nat) : Prop :=
  w.heap[g]? = some (.cells #[.slice A n c, .int .i64 (a : Int)] 41 (0, 0)) ∧ a ≤ n

theorem RdI.keep {w w' : World} {A : Option Addr} {n c : Nat} (h : RdI w A n c) (hk : ∀ a v, w.cell? a = some v → w'.cell? a = some v) : RdI w' A n c :=
  ⟨h.1, h.2.1, fun j hj => by
    obtain ⟨b, o, z, hA, hc, hz⟩ := h.2.2 j hj
    exact ⟨b, o, z, hA, hk _ _ hc, hz⟩⟩
theorem RdI.below {w w' : World} {A : Option Addr} {n c : Nat} (h : RdI w A n c) (hb : Below w.heap.size w w') : RdI w' A n c :=
  h.keep fun a v hc => (hb.cell (World.block_lt_of_cell? w a hc)).trans hc
theorem DeckAt.c0 {w : World} {g n c a : Nat} {A : Option Addr} (h : DeckAt w g A n c a) : w.cell? ⟨g, 0, none⟩ = some (.slice A n c) := by rw [cell_of_row w g 0 _ _ (0, 0) h.1]; rfl
theorem DeckAt.c1 {w : World} {g n c a : Nat} {A : Option Addr} (h : DeckAt w g A n c a) : w.cell? ⟨g, 1, none⟩ = some (.int .i64 (a : Int)) := by rw [cell_of_row w g 1 _ _ (0, 0) h.1]; rfl
theorem DeckAt.frozen {w : World} {g n c a : Nat} {A : Option Addr} (h : DeckAt w g A n c a) (i : Nat) : w.frozen? ⟨g, i, none⟩ = false := by
  have := h.1; simp [World.frozen?, this]
theorem DeckAt.lt {w : World} {g n c a : Nat} {A : Option Addr} (h : DeckAt w g A n c a) : g < w.heap.size := World.block_lt_of_cell? _ ⟨g, 0, none⟩ h.c0
theorem DeckAt.step {w : World} {g n c a : Nat} {A : Option Addr} (h : DeckAt w g A n c a) (hlt : a < n) : DeckAt (w.setCell ⟨g, 1, none⟩ (.int .i64 ((a : Int) + 1))) g A n c (a + 1) := by
  refine ⟨?_, by omega⟩
  have := h.1
  simp [World.setCell, Array.getElem?_modify, this]
theorem DeckAt.far {w w' : World} {g n c a : Nat} {A : Option Addr} (h : DeckAt w g A n c a) (hb : w'.heap[g]? = w.heap[g]?) : DeckAt w' g A n c a := ⟨hb.trans h.1, h.2⟩
theorem DeckAt.below {w w' : World} {g n c a : Nat} {A : Option Addr} (h : DeckAt w g A n c a) (hb : Below w.heap.size w w') : DeckAt w' g A n c a := h.far (hb.block g h.lt)

/-- A number from 0 to n - 1 comes back. -/
def IntOut (n : Int) (w : World) (e : Ending) (w' : World) : Prop := ∃ r : Nat, (r : Int) < n ∧ e = .returned (.int .i64 (r : Int)) ∧ w = w'
theorem within_val (x n : Int) (h3 : 1 ≤ n) (h4 : n ≤ 4398046511104) : wrap64 (x.tmod n + n) = x.tmod n + n ∧ 0 ≤ (x.tmod n + n).tmod n ∧ (x.tmod n + n).tmod n < n := by
  have a1 := Int.tmod_lt_of_pos x (show 0 < n by omega)
  have a2 : -n < x.tmod n := by
    have := Int.tmod_lt_of_pos (-x) (show 0 < n by omega)
    rw [Int.neg_tmod] at this
    omega
  refine ⟨IntWalk.wrap64_in _ ⟨by omega, by omega⟩, Int.tmod_nonneg _ (by omega), Int.tmod_lt_of_pos _ (by omega)⟩
theorem within_any (x n : Int) (w : World) (h1 : -9223372036854775808 ≤ x) (h2 : x ≤ 9223372036854775807) (h3 : 1 ≤ n) (h4 : n ≤ 4398046511104) :
    Calls Try.prog 22 #[.int .i64 x, .int .i64 n] w (IntOut n w) := by
  obtain ⟨e1, e2, e3⟩ := within_val x n h3 h4
  obtain ⟨r, hr⟩ := Int.eq_ofNat_of_zero_le e2
  have E1 := Lib.hid e1
  have HR := Lib.hid hr
  have hrn : (r : Int) < n := by omega
  clear e1 e2 e3 hr
  go_enter Try.func22, Try.ntmps22
  go_wp2
  go_ret
  exact ⟨r, hrn, ret_i64 (by rw [E1.out]; exact HR.out), rfl⟩

/-- What Next leaves: a number below k, and the deck. -/
def NextOut (g : Nat) (A : Option Addr) (n c : Nat) (k : Int) (w : World) (e : Ending) (w' : World) : Prop :=
  ∃ r : Nat, (r : Int) < k ∧ e = .returned (.int .i64 (r : Int)) ∧ (∃ a, DeckAt w' g A n c a) ∧ w.grownBy w' (some g)

set_option maxHeartbeats 1000000 in
theorem next_any (g : Nat) (A : Option Addr) (n c a : Nat) (k : Int) (w : World) (hD : DeckAt w g A n c a) (hR : RdI w A n c) (hg : ∀ j, j < n → ∀ b o, A = some ⟨b, o, none⟩ → b ≠ g) (h3 : 1 ≤ k) (h4 : k ≤ 4398046511104) :
    Calls Try.prog 18 #[.pointer (some ⟨g, 0, none⟩), .int .i64 k] w (NextOut g A n c k w) := by
  have HG := Lib.hid hg
  clear hg
  have c0 := hD.c0
  have c1 := hD.c1
  have f1 := hD.frozen 1
  have hn : n ≤ 9223372036854775807 := Nat.le_trans hR.1 hR.2.1
  have ha := hD.2
  by_cases hlt : a < n
  · have hd : decide (n ≤ a) = false := by simp; omega
    have hi : decide ((n : Int) ≤ (a : Int)) = false := by simp; omega
    obtain ⟨b, o, z, rfl, hc, hz1, hz2⟩ := hR.2.2 a hlt
    have hbg := HG.out a hlt b o rfl
    have i1 : IntKind.i64.wrap ((a : Int) + 1 - 1) = (a : Int) := by rw [IntWalk.i64_in _ (by omega)]; omega
    have i4 : IntKind.i64.wrap (a : Int) = (a : Int) := IntWalk.i64_in _ (by omega)
    have i5 : a ≤ c := by have := hR.1; omega
    have i2 : (0 : Int) ≤ (a : Int) := Int.natCast_nonneg _
    have i3 : (a : Int) < (n : Int) := by omega
    go_enter Try.func18, Try.ntmps18
    go_wp2
    go_quiet (fail)
    go_wp2
    have hD' : DeckAt (w.drewN nq) g (some ⟨b, o, none⟩) n c a := hD
    have hS := hD'.step hlt
    have hG := grow_set (grow_drewN (World.grownBy.refl w (some g)) nq) 1 (.int .i64 ((a : Int) + 1))
    have k0 := hS.c0
    have k1 := hS.c1
    rw [Int.natCast_add, Int.natCast_one] at k1
    have k2 : ((w.drewN nq).setCell ⟨g, 1, none⟩ (.int .i64 ((a : Int) + 1))).cell? ⟨b, o + a, none⟩ = some (.int .i64 z) := by
      rw [World.cell?_setCell_other _ _ _ _ (by simp [hbg])]; exact hc
    clear hD' hD c0 c1 f1 hc hlt
    have HS := Lib.hid hS
    clear hS
    generalize (w.drewN nq).setCell ⟨g, 1, none⟩ (.int .i64 ((a : Int) + 1)) = W at *
    go_region_held3 (fun w' => w'.cell? ⟨g, 0, none⟩ = some (.slice (some ⟨b, o, none⟩) n c) ∧ w'.cell? ⟨g, 1, none⟩ = some (.int .i64 ((a : Int) + 1)) ∧ w'.cell? ⟨b, o + a, none⟩ = some (.int .i64 z)) (first | exact ⟨k0, k1, k2⟩ | assumption) (first | (go_at_call 22; refine (within_any _ _ _ hz1 hz2 h3 h4).mono ?_; rintro e w5 ⟨r, hr, rfl, rfl⟩))
    clear k0 k1 k2
    go_wp2
    go_ret
    exact ⟨r, hr, rfl, ⟨_, HS.out⟩, grow_drewN hG 1⟩
  · have hd : decide (n ≤ a) = true := by simp; omega
    have hi : decide ((n : Int) ≤ (a : Int)) = true := by simp; omega
    go_enter Try.func18, Try.ntmps18
    go_wp2
    go_quiet (fail)
    go_wp2
    go_ret
    exact ⟨0, by omega, rfl, ⟨a, hD⟩, grow_drewN (World.grownBy.refl _ _) _⟩

theorem new_any (A : Option Addr) (n c : Nat) (w : World) :
    Calls Try.prog 8 #[.slice A n c] w fun e w' => e = .returned (.pointer (some ⟨w.heap.size, 0, none⟩)) ∧ w' = w.alloc (.cells #[.slice A n c, .int .i64 0] 41) := by
  go_enter Try.func8, Try.ntmps8
  go_wp2
  go_ret
  exact ⟨rfl, rfl⟩
end Go.Proofs.Ytnmhgbdmjgejfaa
