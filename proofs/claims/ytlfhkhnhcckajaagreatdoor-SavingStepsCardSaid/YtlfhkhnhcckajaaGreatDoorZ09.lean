/- Words laid together in one text. Conditions: none beyond those typed. -/
import Derived.Test.YtlfhkhnhcckajaaGreatDoorZ08
import Derived.Test.YtlfhkhnhcckajaaGreatDoorSvref8
import Derived.Test.YtlfhkhnhcckajaaGreatDoorSvref9
import Derived.Test.YtlfhkhnhcckajaaGreatDoorZ02
import Derived.Lib.TrailingZeros
import Derived.Test.YtlfhkhnhcckajaaGreatDoorZ07
import Derived.Test.YtlfhkhnhcckajaaGreatDoorZ01
import Derived.Test.YtlfhkhnhcckajaaGreatDoorZ06
/- The specified table in memory: Swap, whatever is given. Conditions: none beyond those typed. -/
namespace Go.Proofs.YtlfhkhnhcckajaaGreatDoor
open Go.ChangeShapes Go.WideShapes Go.ChangeAt Go.RowKit
set_option linter.unusedVariables false
set_option linter.unusedSimpArgs false

theorem rtSwap {col : Col} {w : World} {k g : Nat} {t : TSt} (H : RefT col k w g t) (ht : Tidy col w) (s : ByteArray) (e : En) (he1 : 0 ≤ e.2.1 ∧ e.2.1 ≤ 18446744073709551615) (he2 : 0 ≤ e.2.2 ∧ e.2.2 ≤ 18446744073709551615) :
    Calls Tryz.prog 24 #[.pointer (some ⟨g, 0, none⟩), .string s, .agg #[.string e.1, .int .u64 e.2.1, .int .u64 e.2.2]] w fun r w' => r = .returned (.tuple #[.agg (VE (t.swapS s e).1.1), .int .i64 (t.swapS s e).1.2]) ∧ DidRT col k w g (t.swapS s e).2 w' := by
  cases hp : placeE t.l s with
  | none =>
    have hT : t.swapS s e = ((zeroE, 8), t) := by unfold TSt.swapS; rw [hp]
    rw [hT]
    exact rtSwapNone H ht s e hp
  | some i =>
    have hT : t.swapS s e = (if e.1.size = 0 then ((zeroE, 3), t) else if (placeE t.l e.1).isSome = true then ((zeroE, 10), t) else
      if ¬ (e.2.1 ≤ ctAt t.l i ∧ e.2.2 ≤ ctAt t.l i - e.2.1) then ((zeroE, 1), t) else (((t.l[i]?).getD zeroE, 0), { t with l := withoutE t.l i ++ [swapE t.base e] })) := by unfold TSt.swapS; rw [hp]
    by_cases hz : e.1.size = 0
    · rw [hT, if_pos hz]
      exact rtSwapForm H ht s e hp hz
    cases hd : placeE t.l e.1 with
    | some jd =>
      rw [hT, if_neg hz, if_pos (by rw [hd]; rfl)]
      exact rtSwapDup H ht s e hp hz hd
    | none =>
      by_cases hr : e.2.1 ≤ ctAt t.l i ∧ e.2.2 ≤ ctAt t.l i - e.2.1
      · have h := rtSwapOk H ht s e hp hz hd he1 he2 hr
        rw [hT, if_neg hz, if_neg (by rw [hd]; simp), if_neg (fun h => h hr)] at h ⊢
        exact h
      · rw [hT, if_neg hz, if_neg (by rw [hd]; simp), if_pos hr]
        exact rtSwapRange H ht s e hp hz hd he1 hr
end Go.Proofs.YtlfhkhnhcckajaaGreatDoor

/- The table that math/bits.TrailingZeros64 reads, as its initialiser lays it, in a world; it stays. Conditions: none beyond those typed. -/
namespace Go.Proofs.YtlfhkhnhcckajaaGreatDoor
open Go.ChangeShapes Go.WideShapes Go.ChangeAt Go.RowKit
set_option linter.unusedVariables false
set_option linter.unusedSimpArgs false

def Tab (w : World) : Prop := ∀ j, j < 64 → w.cell? ⟨0, j, none⟩ = some (.int .u8 (Lib.deBruijn64tab.getD j 0))
/-- The table lies in a block that nobody writes. -/
structure TbC (col : Col) (w : World) : Prop where
  tab : Tab w
  col0 : col 0 = 0
section
variable {P : Nat → Prop} {col col' : Col} {w w' w0 : World}
theorem Tab.lt (h : Tab w) : 0 < w.heap.size := World.block_lt_of_cell? w _ (h 0 (by omega))
theorem TbC.keep (h : TbC col w) (hs : StepC P col w col' w') (h0 : ¬ P 0) : TbC col' w' :=
  ⟨fun j hj => hs.cell (h.tab j hj) (by show ¬ P (col 0); rw [h.col0]; exact h0), (hs.kept _ h.tab.lt).trans h.col0⟩
theorem Since.tb (h : Since w0 col w) (hT : Tab w0) : TbC col w :=
  ⟨fun j hj => (World.cell?_of_block (w := w0) (h.below.block _ hT.lt)).trans (hT j hj), h.elder _ hT.lt⟩
theorem Since.tab (h : Since w0 col w) (hT : Tab w0) : Tab w := (h.tb hT).tab
theorem Tab.below (h : Tab w) (hb : Below w.heap.size w w') : Tab w' := fun j hj => (World.cell?_of_block (w := w) (hb.block _ h.lt)).trans (h j hj)
end
end Go.Proofs.YtlfhkhnhcckajaaGreatDoor

/- All that the statements use of the program's tables (Space-Saving), as structures of contracts over a representation. Conditions: none beyond those typed. -/
namespace Go.Proofs.YtlfhkhnhcckajaaGreatDoor
open Go.ChangeShapes Go.WideShapes Go.ChangeAt Go.RowKit
set_option linter.unusedVariables false
set_option linter.unusedSimpArgs false

/-- Table t lies in block g, with the base colour k. -/
abbrev RepT := Col → Nat → World → Nat → TSt → Prop
def DidPT (PT : RepT) (col : Col) (k : Nat) (w : World) (g : Nat) (t : TSt) (w' : World) : Prop := ∃ col', PT col' k w' g t ∧ StepC (Rng k) col w col' w'
def NewPT (PT : RepT) (col : Col) (k : Nat) (n : Int) (w : World) (e : Ending) (w' : World) : Prop :=
  (svE n = 0 ∧ ∃ g, e = .returned (.tuple #[.pointer (some ⟨g, 0, none⟩), .int .i64 0]) ∧ DidPT PT col k w g (newT n.toNat) w') ∨ (svE n = 1 ∧ e = .returned (.tuple #[.pointer none, .int .i64 1]) ∧ Below w.heap.size w w')
/-- A size that memory bears. -/
def Sz (s : ByteArray) : Prop := s.size ≤ 281474976710656
def W64 (z : Int) : Prop := 0 ≤ z ∧ z ≤ 18446744073709551615
/-- What is used where weights are only added. -/
structure ProgTh (PT : RepT) : Prop where
  keep : ∀ {P : Nat → Prop} {col col' : Col} {w w' : World} {k g : Nat} {t : TSt}, PT col k w g t → StepC P col w col' w' → (∀ c, Rng k c → ¬ P c) → ¬ P 0 → PT col' k w' g t
  good : ∀ {col : Col} {w : World} {k g : Nat} {t : TSt}, PT col k w g t → GoodT t
  new : ∀ {col : Col} {k : Nat} {w : World}, Tidy col w → TbC col w → 1 ≤ k → ∀ n : Int, J64 n → Calls Tryz.prog 7 #[.int .i64 n] w (NewPT PT col k n w)
  add : ∀ {col : Col} {k g : Nat} {w : World} {t : TSt}, PT col k w g t → Tidy col w → ∀ (s : ByteArray) (x : Int), Sz s → W64 x → Calls Tryz.prog 12 #[.pointer (some ⟨g, 0, none⟩), .string s, .int .u64 x] w fun e w' => e = .returned (.int .i64 (t.addS s x).1) ∧ DidPT PT col k w g (t.addS s x).2 w'
  get : ∀ {col : Col} {k g : Nat} {w : World} {t : TSt}, PT col k w g t → Tidy col w → ∀ s : ByteArray, Sz s → Calls Tryz.prog 9 #[.pointer (some ⟨g, 0, none⟩), .string s] w fun e w' => e = .returned (.tuple #[.agg (VE (t.get s).1), .bool (t.get s).2]) ∧ Below w.heap.size w w'
  take : ∀ {col : Col} {k g : Nat} {w : World} {t : TSt}, PT col k w g t → Tidy col w → ∀ s : ByteArray, Sz s → Calls Tryz.prog 10 #[.pointer (some ⟨g, 0, none⟩), .string s] w fun e w' => e = .returned (.tuple #[.agg (VE (t.get s).1), .bool (t.get s).2]) ∧ DidPT PT col k w g (t.take s) w'
  untr : ∀ {col : Col} {k g : Nat} {w : World} {t : TSt}, PT col k w g t → Tidy col w → Calls Tryz.prog 13 #[.pointer (some ⟨g, 0, none⟩)] w fun e w' => e = .returned (.int .u64 t.base) ∧ Below w.heap.size w w'
  total : ∀ {col : Col} {k g : Nat} {w : World} {t : TSt}, PT col k w g t → Tidy col w → Calls Tryz.prog 14 #[.pointer (some ⟨g, 0, none⟩)] w fun e w' => e = .returned (.int .u64 t.sum) ∧ Below w.heap.size w w'
structure ProgT (PT : RepT) : Prop extends ProgTh PT where
  swap : ∀ {col : Col} {k g : Nat} {w : World} {t : TSt}, PT col k w g t → Tidy col w → ∀ (s : ByteArray) (e : En), Sz s → Sz e.1 → W64 e.2.1 → W64 e.2.2 → Calls Tryz.prog 11 #[.pointer (some ⟨g, 0, none⟩), .string s, .agg (VE e)] w fun r w' => r = .returned (.tuple #[.agg (VE (t.swapS s e).1.1), .int .i64 (t.swapS s e).1.2]) ∧ DidPT PT col k w g (t.swapS s e).2 w'
  len : ∀ {col : Col} {k g : Nat} {w : World} {t : TSt}, PT col k w g t → Tidy col w → Calls Tryz.prog 15 #[.pointer (some ⟨g, 0, none⟩)] w fun e w' => e = .returned (.int .i64 t.l.length) ∧ Below w.heap.size w w'
  entries : ∀ {col : Col} {k g : Nat} {w : World} {t : TSt}, PT col k w g t → Tidy col w → Calls Tryz.prog 16 #[.pointer (some ⟨g, 0, none⟩)] w (RowOut kEn w (sortE t.l))
instance progTLow {PT : RepT} : Coe (ProgT PT) (ProgTh PT) := ⟨ProgT.toProgTh⟩
/-- What a nil table returns. -/
structure ProgTn : Prop where
  add : ∀ (w : World) (s : ByteArray) (x : Int), Calls Tryz.prog 12 #[.pointer none, .string s, .int .u64 x] w fun e w' => e = .returned (.int .i64 8) ∧ Below w.heap.size w w'
  get : ∀ (w : World) (s : ByteArray), Calls Tryz.prog 9 #[.pointer none, .string s] w fun e w' => ∃ x : En, e = .returned (.tuple #[.agg (VE x), .bool false]) ∧ Below w.heap.size w w'
  take : ∀ (w : World) (s : ByteArray), Calls Tryz.prog 10 #[.pointer none, .string s] w fun e w' => ∃ x : En, e = .returned (.tuple #[.agg (VE x), .bool false]) ∧ Below w.heap.size w w'
  swap : ∀ (w : World) (s : ByteArray) (x : En), Calls Tryz.prog 11 #[.pointer none, .string s, .agg (VE x)] w fun e w' => ∃ y : En, e = .returned (.tuple #[.agg (VE y), .int .i64 8]) ∧ Below w.heap.size w w'
  untr : ∀ w : World, Calls Tryz.prog 13 #[.pointer none] w fun e w' => e = .returned (.int .u64 0) ∧ Below w.heap.size w w'
  total : ∀ w : World, Calls Tryz.prog 14 #[.pointer none] w fun e w' => e = .returned (.int .u64 0) ∧ Below w.heap.size w w'
  len : ∀ w : World, Calls Tryz.prog 15 #[.pointer none] w fun e w' => e = .returned (.int .i64 0) ∧ Below w.heap.size w w'
  entries : ∀ w : World, Calls Tryz.prog 16 #[.pointer none] w fun e w' => ∃ A c, e = .returned (.slice A 0 c) ∧ Below w.heap.size w w'
/-- Nothing elder has turned, and a table. -/
structure AtT (PT : RepT) (w0 : World) (col : Col) (W : World) (k g : Nat) (t : TSt) : Prop where
  since : Since w0 col W
  pt : PT col k W g t
section
variable {PT : RepT} {w0 W W' : World} {col col' : Col} {k g : Nat} {t t' : TSt}
theorem ProgTh.below (HP : ProgTh PT) (h : PT col k W g t) (ht : Tidy col W) (hb : Below W.heap.size W W') : PT col k W' g t := HP.keep (P := fun _ => False) h (StepC.below ht hb) (fun _ _ h => h) (fun h => h)
theorem AtT.tidy (h : AtT PT w0 col W k g t) : Tidy col W := h.since.tidy
theorem AtT.below (HP : ProgTh PT) (h : AtT PT w0 col W k g t) (hb : Below W.heap.size W W') : AtT PT w0 col W' k g t := ⟨h.since.belowL hb, HP.below h.pt h.tidy hb⟩
theorem AtT.did (h : AtT PT w0 col W k g t) (hk : 1 ≤ k) (hd : DidPT PT col k W g t' W') : ∃ col', AtT PT w0 col' W' k g t' := by
  obtain ⟨col', h1, s⟩ := hd
  exact ⟨col', h.since.step s (rng0 hk), h1⟩
end
end Go.Proofs.YtlfhkhnhcckajaaGreatDoor

/- What lifts of stage 13 want: an entry that came in. Conditions: none beyond those typed. -/
namespace Go.Proofs.YtlfhkhnhcckajaaGreatDoor
open Go.ChangeShapes Go.WideShapes Go.ChangeAt Go.RowKit
set_option linter.unusedVariables false
set_option linter.unusedSimpArgs false
set_option maxRecDepth 100000

theorem open_entry {H : Type} {enc : TypeId × Value → H} {W : World} {cs : Array Value} {d : DataW H} {p : List MemPlace} (h : DataW.Trod enc Tryz.prog W 0 (fun _ => true) true 32 (.agg cs) d p) :
    ∃ (s : ByteArray) (t x : Int) (y1 y2 : DataW H), cs = #[.string s, .int .u64 t, .int .u64 x] ∧ d = .agg [.lit (.string s.data.toList), y1, y2] ∧ W64 t ∧ W64 x := by
  obtain ⟨fuel, hf⟩ := h
  obtain ⟨y0, y1, y2, m, hd, hlen, t0, t1, t2⟩ := Go.Deep.trod_struct3 Tryz.underlying32 hf
  have e0 : Tryz.prog.cellsOf 32 = 3 := by kernel_rfl
  have e1 : Tryz.prog.cellsOf 9 = 1 := by kernel_rfl
  have e2 : Tryz.prog.cellsOf 30 = 1 := by kernel_rfl
  obtain ⟨l⟩ := cs
  have hlen' : l.length = 3 := by rw [← e0]; simpa [Value.cells] using hlen
  match l, hlen' with
  | [c0, c1, c2], _ =>
    simp only [Value.cells] at t0 t1 t2
    rw [e1] at t0
    rw [e2] at t1 t2
    simp at t0 t1 t2
    obtain ⟨s, h0, k0, _⟩ := DataW.trod_string Tryz.underlying9 t0
    obtain ⟨t, h1, _, w1⟩ := DataW.trod_int Tryz.underlying30 t1
    obtain ⟨x, h2, _, w2⟩ := DataW.trod_int Tryz.underlying30 t2
    simp only [List.cons.injEq, and_true] at h0 h1 h2
    subst h0 h1 h2
    injection hd with hd _
    rw [k0] at hd
    exact ⟨s, t, x, y1.1, y2.1, rfl, hd, bounds_u64 w1, bounds_u64 w2⟩
theorem sized_entry {H : Type} {ts : List TypeId} {ds : List (DataW H)} (h : (DataW.weightsEach Tryz.prog ts ds).all (· ≤ reachBytes) = true) {j : Nat} {s : ByteArray} {y1 y2 : DataW H} (ht : ts[j]? = some 32) (hd : ds[j]? = some (.agg [.lit (.string s.data.toList), y1, y2])) : Sz s := by
  have h1 : s.data.toList.length ≤ 140737488351232 := of_decide_eq_true (List.all_eq_true.1 h _ (DataW.weights_mem_each ht hd _ (by simp [DataW.weights, Tryz.underlying32, DataW.weightsEach])))
  have h2 := ba_size s
  unfold Sz
  omega
end Go.Proofs.YtlfhkhnhcckajaaGreatDoor

/- A deck beside other objects: it lies in a block of colour 1. Conditions: none beyond those typed. -/
namespace Go.Proofs.YtlfhkhnhcckajaaGreatDoor
open Go.ChangeShapes Go.WideShapes Go.ChangeAt Go.RowKit
set_option linter.unusedVariables false
set_option linter.unusedSimpArgs false

/-- Nothing elder has turned; the deck lies in a block of colour 1. -/
structure DkS (w : World) (col : Col) (W : World) (gd : Nat) (A : Option Addr) (m d : Nat) : Prop where
  since : Since w col W
  dk : Dk w W gd A m d
  dc : col gd = 1
section
variable {w W W' : World} {col col' : Col} {gd m d : Nat} {A : Option Addr} {P : Nat → Prop}
theorem DkS.tidy (h : DkS w col W gd A m d) : Tidy col W := h.since.tidy
theorem DkS.new (h : RdI w A m d) : DkS w (dye (fun _ => 0) (some w.heap.size) 1) (w.alloc (.cells #[.slice A m d, .int .i64 0] 74)) w.heap.size A m d :=
  ⟨(Since.start w).step (StepC.new (fun _ _ => rfl) _ 1 (fun _ => False)) (fun h => h), Dk.new h, dye_of⟩
theorem DkS.step (h : DkS w col W gd A m d) (s : StepC P col W col' W') (h1 : ¬ P 1) (hz : ¬ P 0) : DkS w col' W' gd A m d := by
  have hs := h.since.step s hz
  obtain ⟨d1, d2, d3, a, hD⟩ := h.dk
  exact ⟨hs, ⟨d1, hs.below, d3, a, hD.far (s.block gd hD.lt (by rw [h.dc]; exact h1))⟩, (s.kept gd hD.lt).trans h.dc⟩
theorem DkS.below (h : DkS w col W gd A m d) (hb : Below W.heap.size W W') : DkS w col W' gd A m d := h.step (P := fun _ => False) (StepC.below h.tidy hb) (fun h => h) (fun h => h)
/-- Behind a call of the deck's. -/
theorem DkS.deck (h : DkS w col W gd A m d) (hD : Dk w W' gd A m d) (hg : W.grownBy W' (some gd)) : DkS w col W' gd A m d ∧ StepC (fun c => c = 1) col W col W' := by
  have s : StepC (fun c => c = 1) col W col W' := StepC.grownBy h.tidy hg fun q e => by injection e with e; subst e; exact h.dc
  exact ⟨⟨h.since.step s (by omega), hD, h.dc⟩, s⟩
end
end Go.Proofs.YtlfhkhnhcckajaaGreatDoor

/- Deck.Entry. Conditions: none beyond those typed. -/
namespace Go.Proofs.YtlfhkhnhcckajaaGreatDoor
open Go.ChangeShapes Go.WideShapes Go.ChangeAt Go.RowKit
set_option linter.unusedVariables false
set_option linter.unusedSimpArgs false
set_option maxRecDepth 100000

/-- A small entry comes back, and the deck; nothing else has turned. -/
def EntryDk (B : World) (g : Nat) (A : Option Addr) (n c : Nat) (W : World) (e : Ending) (W' : World) : Prop :=
  ∃ x : En, (2 ≤ x.1.size ∧ x.1.size ≤ 3) ∧ (0 ≤ x.2.1 ∧ x.2.1 < 30) ∧ (0 ≤ x.2.2 ∧ x.2.2 < 10) ∧ e = .returned (.agg (VE x)) ∧ Dk B W' g A n c ∧ W.grownBy W' (some g)
theorem grow_pre {w w1 w2 : World} {row : Option Nat} (h : Below w.heap.size w w1) (hg : w1.grownBy w2 row) : w.grownBy w2 row :=
  ⟨hg.os.trans h.os, hg.tape.trans h.tape, hg.output.trans h.output, Nat.le_trans h.size hg.size, fun k hk hr => (hg.block k (Nat.lt_of_lt_of_le hk h.size) hr).trans (h.block k hk)⟩
theorem grow_two {w w1 w2 : World} {row : Option Nat} (h : w.grownBy w1 row) (hg : w1.grownBy w2 row) : w.grownBy w2 row :=
  ⟨hg.os.trans h.os, hg.tape.trans h.tape, hg.output.trans h.output, Nat.le_trans h.size hg.size, fun k hk hr => (hg.block k (Nat.lt_of_lt_of_le hk h.size) hr).trans (h.block k hk hr)⟩
theorem grow_new {w w1 : World} {row : Option Nat} (h : w.grownBy w1 row) {a : Addr} (ha : w.heap.size ≤ a.block) (v : Value) : w.grownBy (w1.setCell a v) row :=
  ⟨h.os, h.tape, h.output, by have := h.size; simpa [World.setCell] using this, fun k hk hr => (Below.heap_setCell _ _ _ _ (by omega)).trans (h.block k hk hr)⟩
set_option maxHeartbeats 1000000 in
theorem entry_dk {B W : World} {g n c : Nat} {A : Option Addr} (h : Dk B W g A n c) : Calls Tryz.prog 23 #[.pointer (some ⟨g, 0, none⟩)] W (EntryDk B g A n c W) := by
  have b1 : Below W.heap.size W (W.alloc (.cells #[.string ⟨#[]⟩, .int .u64 0, .int .u64 0] 32)) := (Below.refl _ _).alloc (Nat.le_refl _) _
  have h1 := h.below b1
  have X1 : (W.alloc (.cells #[.string ⟨#[]⟩, .int .u64 0, .int .u64 0] 32)).heap[W.heap.size]? = some (.cells (VE zeroE) 32 (0, 0)) := heap_alloc_new W _
  obtain ⟨G, hG⟩ : ∃ G, W.heap.size = G := ⟨_, rfl⟩
  have hgG : g < G := by rw [← hG]; exact h.lt
  have hS := short_dk h1
  obtain ⟨W1, hW1⟩ : ∃ W1, W1 = W.alloc (.cells #[.string ⟨#[]⟩, .int .u64 0, .int .u64 0] 32) := ⟨_, rfl⟩
  rw [← hW1] at hS X1 b1 h1
  rw [hG] at X1
  go_enter Tryz.func23, Tryz.ntmps23
  go_wp2_with fail
  rw [← hW1]
  clear hW1
  refine hS.mono ?_
  rintro e w2 ⟨s, hs, rfl, h2, g2⟩
  have X2 : w2.heap[G]? = some (.cells (VE zeroE) 32 (0, 0)) := (g2.block G (Array.getElem?_eq_some_iff.1 X1).1 (by intro e; injection e with e; omega)).trans X1
  have G2 := grow_pre b1 g2
  have hN := next_dk h2 30 (by omega) (by omega)
  clear hS X1 g2 b1 h1 h2
  go_wp2_with fail
  refine hN.mono ?_
  rintro e w3 ⟨r, hr, rfl, h3, g3⟩
  have X3 : w3.heap[G]? = some (.cells (VE zeroE) 32 (0, 0)) := (g3.block G (Array.getElem?_eq_some_iff.1 X2).1 (by intro e; injection e with e; omega)).trans X2
  have G3 := grow_two G2 g3
  have hN2 := next_dk h3 10 (by omega) (by omega)
  have hw1 : IntKind.u64.wrap (r : Int) = (r : Int) := by rw [IntKind.wrap_u64]; omega
  clear hN X2 g3 G2 h3
  go_wp2_with fail
  refine hN2.mono ?_
  rintro e w4 ⟨r2, hr2, rfl, h4, g4⟩
  have X4 : BoxC (fun _ => 0) w4 G 0 (VE zeroE) 32 := ⟨(g4.block G (Array.getElem?_eq_some_iff.1 X3).1 (by intro e; injection e with e; omega)).trans X3, rfl⟩
  have G4 := grow_two G3 g4
  have hw2 : IntKind.u64.wrap (r2 : Int) = (r2 : Int) := by rw [IntKind.wrap_u64]; omega
  have y0 : w4.cell? ⟨G, 0, none⟩ = some (.string ⟨#[]⟩) := X4.cell 0 rfl
  have y1 : w4.cell? ⟨G, 1, none⟩ = some (.int .u64 0) := X4.cell 1 rfl
  have y2 : w4.cell? ⟨G, 2, none⟩ = some (.int .u64 0) := X4.cell 2 rfl
  have f0 := X4.free 0
  have f1 := X4.free 1
  have f2 := X4.free 2
  have HX := Lib.hid (vbox_en X4 (a := zeroE) (s, (r : Int), (r2 : Int))).heap
  have HD := Lib.hid (show Dk B (((w4.setCell ⟨G, 0, none⟩ (.string s)).setCell ⟨G, 1, none⟩ (.int .u64 (r : Int))).setCell ⟨G, 2, none⟩ (.int .u64 (r2 : Int))) g A n c from by
    exact h4.far (row := some G) ⟨rfl, rfl, rfl, by simp [World.setCell], fun k hk hr => by
      have hne : k ≠ G := fun e => hr (by rw [e])
      exact ((Below.heap_setCell _ _ _ _ hne).trans (Below.heap_setCell _ _ _ _ hne)).trans (Below.heap_setCell _ _ _ _ hne)⟩ (fun k e => by injection e with e; omega))
  have HG := Lib.hid (grow_new (a := ⟨G, 2, none⟩) (grow_new (a := ⟨G, 1, none⟩) (grow_new (a := ⟨G, 0, none⟩) G4 (by rw [hG]; exact Nat.le_refl _) (.string s)) (by rw [hG]; exact Nat.le_refl _) (.int .u64 (r : Int))) (by rw [hG]; exact Nat.le_refl _) (.int .u64 (r2 : Int)))
  have HR := Lib.hid (show (2 ≤ s.size ∧ s.size ≤ 3) ∧ (0 ≤ (r : Int) ∧ (r : Int) < 30) ∧ (0 ≤ (r2 : Int) ∧ (r2 : Int) < 10) from ⟨hs, ⟨by omega, hr⟩, by omega, hr2⟩)
  clear hN2 X3 X4 g4 G3 G4 h4 hG
  go_wp2
  refine bodyPost_ret (results_cell_row rfl _ _ G _ _ (0, 0) _ rfl HX.out Tryz.underlying32 rfl (by kernel_rfl)) rfl ?_
  exact ⟨(s, (r : Int), (r2 : Int)), HR.out.1, HR.out.2.1, HR.out.2.2, rfl, HD.out, HG.out⟩
end Go.Proofs.YtlfhkhnhcckajaaGreatDoor
