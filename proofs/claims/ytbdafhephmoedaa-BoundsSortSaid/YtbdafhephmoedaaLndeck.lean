/- Deck.Lines: lines of a deck's making. Conditions: none beyond those typed. -/
import Derived.Test.YtbdafhephmoedaaLnrow
import Derived.Test.YtbdafhephmoedaaKdeck
import Derived.Test.YtbdafhephmoedaaKgrow
import Derived.Test.YtbdafhephmoedaaAmade
import Derived.Test.YtbdafhephmoedaaQshort
namespace Go.Proofs.Ytbdafhephmoedaa
open Go.ChangeShapes Go.WideShapes Go.ChangeAt Go.RowKit
set_option linter.unusedVariables false
set_option linter.unusedSimpArgs false
set_option maxRecDepth 100000

/-- A line of a deck's making. -/
def FineL (x : En) : Prop := (2 ≤ x.1.size ∧ x.1.size ≤ 3) ∧ 0 ≤ x.2.1 ∧ x.2.1 ≤ x.2.2 ∧ x.2.2 ≤ 12
/-- Lines come back, in new memory, and the deck; nothing else has turned. -/
def LnsDk (B : World) (g : Nat) (A : Option Addr) (n c : Nat) (W : World) (e : Ending) (W' : World) : Prop :=
  ∃ A' m c' L, e = .returned (.slice A' m c') ∧ m ≤ 30 ∧ RdG kLn W' A' m c' L ∧ (∀ b o sp, A' = some ⟨b, o, sp⟩ → W.heap.size ≤ b) ∧ (∀ x ∈ L, FineL x) ∧ Dk B W' g A n c ∧ W.grownBy W' (some g)
/-- What stands in a round. -/
structure LnsR (B W : World) (g : Nat) (A : Option Addr) (n c q : Nat) (L : List En) (v : Value) (W' : World) : Prop where
  own : OwnK kLn W' v L
  new : New W v
  dk : Dk B W' g A n c
  gr : W.grownBy W' (some g)
  cnt : L.length + q ≤ 30
  fine : ∀ x ∈ L, FineL x
theorem w5_any {a b : Nat} (ha : (a : Int) < 9) (hb : (b : Int) < 5) : IntKind.u64.wrap (b : Int) = (b : Int) := by rw [IntKind.wrap_u64]; omega
theorem w6_any {a b : Nat} (ha : (a : Int) < 9) (hb : (b : Int) < 5) : IntKind.u64.wrap ((a : Int) + (b : Int)) = (a : Int) + (b : Int) := by rw [IntKind.wrap_u64]; omega
set_option maxHeartbeats 2000000 in
theorem lines_dk {B W : World} {g n c : Nat} {A : Option Addr} (h : Dk B W g A n c) : Calls Try.prog 17 #[.pointer (some ⟨g, 0, none⟩), .int .i64 30] W (LnsDk B g A n c W) := by
  have hgl := h.lt
  go_enter Try.func17, Try.ntmps17
  go_wp2_with fail
  refine (next_dk h 31 (by omega) (by omega)).mono ?_
  rintro e W1 ⟨r1, hr1, rfl, D1, g1⟩
  go_wp2
  go_loopw [5, 6] (fun v k wr => ∃ (q : Nat) (L : List En), k = .int .i64 (q : Int) ∧ LnsR B W g A n c q L v wr) (fun _ k _ => (intOf k).toNat)
  case atStart => exact ⟨r1, [], rfl, OwnK.nil kLn W1, fun q hq => by simp [Value.ownBlock] at hq, D1, g1, by simp; omega, by simp⟩
  case round =>
    clear D1 g1 hr1 h
    obtain ⟨q, L, rfl, H⟩ := hrel
    have hcnt := H.cnt
    by_cases hq : q = 0
    · subst hq
      obtain ⟨A', c', rfl, hr, _⟩ := H.own.form rfl
      have hH := Lib.hid H
      clear H
      go_wp2
      go_ret
      exact ⟨_, _, _, L, rfl, by omega, hr, fun b o sp e => hH.out.new b (by rw [e]; rfl), hH.out.fine, hH.out.dk, hH.out.gr⟩
    · have hq0 : (q : Int) > 0 := by omega
      go_wp2_with fail
      refine (short_dk H.dk).mono ?_
      rintro e W2 ⟨s, hs, rfl, D2, g2⟩
      go_wp2_with fail
      refine (next_dk D2 9 (by omega) (by omega)).mono ?_
      rintro e W3 ⟨r3, hr3, rfl, D3, g3⟩
      have g23 := g2.trans g3
      have O3 := H.own.grown g23 (fun b hb e => by injection e with e; subst e; have := H.new _ hb; omega)
      have hG3 := H.gr.trans g23
      have hH := Lib.hid H
      have hw3 : IntKind.u64.wrap (r3 : Int) = (r3 : Int) := by rw [IntKind.wrap_u64]; omega
      have B4 : Below W3.heap.size W3 (W3.alloc (.cells (VL (s, (r3 : Int), 0)) 43)) := (Below.refl _ _).alloc (Nat.le_refl _) _
      have O4 := O3.below B4
      have D4 := D3.below B4
      have hG4 := grown_on hG3 (World.grownBy_alloc W3 (.cells (VL (s, (r3 : Int), 0)) 43) none) (fun j e => by cases e)
      have X4 : BoxC (fun _ => 0) (W3.alloc (.cells (VL (s, (r3 : Int), 0)) 43)) W3.heap.size 0 (VL (s, (r3 : Int), 0)) 43 := ⟨heap_alloc_new W3 _, rfl⟩
      have hgG : g < W3.heap.size := D3.lt
      have hWG : W.heap.size ≤ W3.heap.size := hG3.size
      have hOG : ∀ b, u5.ownBlock = some b → b < W3.heap.size := fun b hb => O3.lt b hb
      clear H D2 g2 g3 g23 O3 D3 hG3 B4
      go_wp2
      generalize W3.alloc (.cells (VL (s, (r3 : Int), 0)) 43) = W4 at *
      generalize W3.heap.size = G at *
      have y1 : W4.cell? ⟨G, 1, none⟩ = some (.int .u64 (r3 : Int)) := X4.cell 1 rfl
      have hN5 := next_dk (D4.drewN 1) 5 (by omega) (by omega)
      have hHX := Lib.hid (fun (W5 : World) (g5 : (W4.drewN 1).grownBy W5 (some g)) => show BoxC (fun _ => 0) W5 G 0 (VL (s, (r3 : Int), 0)) 43 from ⟨(g5.block G X4.lt (by intro e; injection e with e; omega)).trans X4.heap, rfl⟩)
      go_region_held3 (fun W => W.cell? ⟨G, 1, none⟩ = some (.int .u64 (r3 : Int))) (first | exact y1 | exact z1 | exact X6.cell 1 rfl) ((go_at_call 25; refine hN5.mono ?_; rintro e W5 ⟨r5, hr5, rfl, D5, g5⟩; have X5 := hHX.out W5 g5; have z1 := X5.cell 1 rfl; have z2 := X5.cell 2 rfl; have f2 := X5.free 2; have hw5 := w5_any hr3 hr5; have hw6 := w6_any hr3 hr5; have X6 := X5.put 2 (.int .u64 ((r3 : Int) + (r5 : Int)))))
      all_goals
        have hG5 : W.grownBy W5 (some g) := World.grownBy.trans (grow_drewL hG4 1) g5
        have O5 := (O4.drewN 1).grown g5 (fun b hb e => by injection e with e; subst e; have := hH.out.new _ hb; omega)
        obtain ⟨W6, hW6⟩ : ∃ W6, W6 = W5.setCell ⟨G, 2, none⟩ (.int .u64 ((r3 : Int) + (r5 : Int))) := ⟨_, rfl⟩
        have O6 : OwnK kLn W6 u5 L := by
          rw [hW6]
          exact O5.far fun q hq => Below.heap_setCell _ _ _ _ (fun e => by have := hOG q hq; simp only at e; omega)
        have D6 : Dk B W6 g A n c := by
          rw [hW6]
          exact D5.far (row := some G) ⟨rfl, rfl, rfl, by simp [World.setCell], fun k hk hr => Below.heap_setCell _ _ _ _ (fun e => hr (by simp only at e; rw [e]))⟩ (fun k e => by injection e with e; omega)
        have hG6 : W.grownBy W6 (some g) := by
          rw [hW6]
          exact ⟨hG5.os, hG5.tape, hG5.output, by have := hG5.size; simpa [World.setCell] using this, fun k hk hr => (Below.heap_setCell _ _ _ _ (fun e => by simp only at e; omega)).trans (hG5.block k hk hr)⟩
        have X6' : BoxC (fun _ => 0) W6 G 0 (VL (s, (r3 : Int), (r3 : Int) + (r5 : Int))) 43 := by rw [hW6]; exact X6
        have x0 := X6'.cell 0 rfl
        have x1 := X6'.cell 1 rfl
        have x2 := X6'.cell 2 rfl
        rw [← hW6]
        obtain ⟨t, ht⟩ : ∃ t, (r3 : Int) + (r5 : Int) = t := ⟨_, rfl⟩
        rw [ht] at x2
        have L7 : RdG kLn (W6.alloc (.cells (VL (s, (r3 : Int), t)) 43)) (some ⟨W6.heap.size, 0, none⟩) 1 1 [((s, (r3 : Int), t) : En)] := RdG.one2 kLn (s, (r3 : Int), t) rfl rfl rfl
        have B7 : Below W6.heap.size W6 (W6.alloc (.cells (VL (s, (r3 : Int), t)) 43)) := (Below.refl _ _).alloc (Nat.le_refl _) _
        have O7 := O6.below B7
        have D7 := D6.below B7
        have hG7 := grown_on hG6 (World.grownBy_alloc W6 (.cells (VL (s, (r3 : Int), t)) 43) none) (fun j e => by cases e)
        have hln : (L ++ [((s, (r3 : Int), t) : En)]).length = L.length + 1 := by simp
        have hb : L.length + 1 ≤ 1000000000 := by omega
        have hnew := hH.out.new
        have hs6 := hG6.size
        have HF := Lib.hid (show ∀ x ∈ L ++ [((s, (r3 : Int), t) : En)], FineL x from fun x hx => by
          rcases List.mem_append.1 hx with hx | hx
          · exact hH.out.fine x hx
          · rw [List.mem_singleton.1 hx]; exact ⟨hs, by show 0 ≤ (r3 : Int); omega, by show (r3 : Int) ≤ t; omega, by show t ≤ 12; omega⟩)
        clear y1 z1 z2 f2 hw5 hw6 X4 X5 X6 X6' O4 O5 O6 D4 D5 D6 hG4 hG5 hG6 hHX hN5 hH B7 g5 hW6 ht hw3 hOG
        go_wp2_with (at_builtin; refine wpList_appK kLn rfl (.tmp 29) (.tmp 31) rfl u5 L rfl _ 1 1 [((s, (r3 : Int), t) : En)] rfl O7 L7 hb ?_; intro v8 W8 O8 G8 hat8; obtain ⟨A8, c8, rfl, _, _⟩ := O8.form hln)
        obtain ⟨q', rfl⟩ : ∃ q' : Nat, q = q' + 1 := ⟨q - 1, by omega⟩
        go_roundw
        case rel => exact ⟨q', _, by go_num, O8, fun b hb => by
          rcases hat8 with e | e
          · exact hnew b (e.symm.trans hb)
          · exact Nat.le_trans hG7.size (Nat.le_of_eq (Option.some.inj (e.symm.trans hb))), D7.far' G8 hnew hgl, grown_on hG7 G8 hnew, by simp; omega, HF.out⟩
        case measure => (simp [intOf] <;> omega)
end Go.Proofs.Ytbdafhephmoedaa
