/- Words laid together in one text. Conditions: none beyond those typed. -/
import Derived.Test.YtajkcjbkbihgjaaGreatZ02
import Derived.Test.YtajkcjbkbihgjaaGreatZ03
import Derived.Lib.TrailingZeros
import Derived.Test.YtajkcjbkbihgjaaGreatZ01
import Derived.BigQuiet
import Derived.Deep.RegionHeld3
import Derived.Deep.CutRange
import Derived.Laws.Closers25b
import Derived.Laws.OwnMore
import Derived.Test.YtajkcjbkbihgjaaGreatShelfc
/- The specified table of either mode: New with any mode, Bounds, Limit, and the other calls by mode. Conditions: none beyond those typed. -/
namespace Go.Proofs.YtajkcjbkbihgjaaGreat
open Go.ChangeShapes Go.WideShapes Go.ChangeAt Go.RowKit
set_option linter.unusedVariables false
set_option linter.unusedSimpArgs false
set_option maxRecDepth 100000

/-- Bounds in a struct. -/
abbrev VB (b : Int × Int) : Array Value := #[.int .u64 b.1, .int .u64 b.2]
def RfTb (sv : Bool) (col : Col) (k : Nat) (w : World) (g : Nat) (t : TSt) : Prop := match sv with | true => RefT col k w g t | false => RefF col k w g t
def DidTb (sv : Bool) (col : Col) (k : Nat) (w : World) (g : Nat) (t : TSt) (w' : World) : Prop := ∃ col', RfTb sv col' k w' g t ∧ StepC (Rng k) col w col' w'
section
variable {P : Nat → Prop} {sv : Bool} {col col' : Col} {w w' : World} {k g : Nat} {t : TSt}
theorem RfTb.keep (h : RfTb sv col k w g t) (hs : StepC P col w col' w') (hp : ∀ c, Rng k c → ¬ P c) : RfTb sv col' k w' g t := by
  cases sv with
  | true => exact RefT.keep h hs hp
  | false => exact RefF.keep h hs hp
theorem RfTb.below (h : RfTb sv col k w g t) (ht : Tidy col w) (hb : Below w.heap.size w w') : RfTb sv col k w' g t := h.keep (P := fun _ => False) (StepC.below ht hb) (fun _ _ h => h)
theorem RfTb.good (h : RfTb sv col k w g t) : GdTb sv t := by
  cases sv with
  | true => exact h.1
  | false => exact h.1
/-- Limit. -/
theorem rbLimit (mode m total : Int) (w : World) (h0 : -9223372036854775808 ≤ mode ∧ mode ≤ 9223372036854775807) (h1 : -9223372036854775808 ≤ m ∧ m ≤ 9223372036854775807) (h2 : 0 ≤ total ∧ total ≤ 18446744073709551615) :
    Calls Tryz.prog 11 #[.int .i64 mode, .int .i64 m, .int .u64 total] w fun e w' => e = .returned (.int .u64 (limE mode m total)) ∧ w = w' := by
  by_cases c1 : m < 1
  · have HE := Lib.hid (show limE mode m total = total from if_pos (.inl c1))
    go_enter Tryz.func11, Tryz.ntmps11
    go_wp2
    go_ret
    rw [HE.out]
    exact ⟨rfl, rfl⟩
  by_cases c2 : 64 < m
  · have HE := Lib.hid (show limE mode m total = total from if_pos (.inr c2))
    go_enter Tryz.func11, Tryz.ntmps11
    go_wp2
    go_ret
    rw [HE.out]
    exact ⟨rfl, rfl⟩
  have hu : IntKind.u64.wrap m = m := IntWalk.u64_in _ ⟨by omega, by omega⟩
  have hw1 : IntKind.i64.wrap (m + 1) = m + 1 := by rw [IntKind.wrap_i64]; omega
  have hu1 : IntKind.u64.wrap (m + 1) = m + 1 := IntWalk.u64_in _ ⟨by omega, by omega⟩
  have hd1 : total.tdiv m = total / m := Int.tdiv_eq_ediv_of_nonneg h2.1
  have hd2 : total.tdiv (m + 1) = total / (m + 1) := Int.tdiv_eq_ediv_of_nonneg h2.1
  have hb1 : 0 ≤ total / m ∧ total / m ≤ total := ⟨Int.ediv_nonneg h2.1 (by omega), Int.ediv_le_self _ h2.1⟩
  have hb2 : 0 ≤ total / (m + 1) ∧ total / (m + 1) ≤ total := ⟨Int.ediv_nonneg h2.1 (by omega), Int.ediv_le_self _ h2.1⟩
  have hwd1 : IntKind.u64.wrap (total / m) = total / m := IntWalk.u64_in _ ⟨hb1.1, by omega⟩
  have hwd2 : IntKind.u64.wrap (total / (m + 1)) = total / (m + 1) := IntWalk.u64_in _ ⟨hb2.1, by omega⟩
  have hm0 : ¬ m = 0 := by omega
  have hm1 : ¬ m + 1 = 0 := by omega
  have hm0b : (m == 0) = false := beq_false_of_ne hm0
  have hm1b : (m + 1 == 0) = false := beq_false_of_ne hm1
  by_cases c3 : mode = 1
  · subst c3
    have HE := Lib.hid (show limE 1 m total = total / m by unfold limE; rw [if_neg (by omega), if_pos rfl])
    go_enter Tryz.func11, Tryz.ntmps11
    go_wp2
    go_ret
    rw [HE.out]
    exact ⟨rfl, rfl⟩
  by_cases c4 : mode = 2
  · subst c4
    have HE := Lib.hid (show limE 2 m total = total / (m + 1) by unfold limE; rw [if_neg (by omega), if_neg (by decide), if_pos rfl])
    go_enter Tryz.func11, Tryz.ntmps11
    go_wp2
    go_ret
    rw [HE.out]
    exact ⟨rfl, rfl⟩
  · have HE := Lib.hid (show limE mode m total = total by unfold limE; rw [if_neg (by omega), if_neg c3, if_neg c4])
    have e1 : (mode == 1) = false := beq_false_of_ne c3
    have e2 : (mode == 2) = false := beq_false_of_ne c4
    go_enter Tryz.func11, Tryz.ntmps11
    go_wp2
    go_ret
    rw [HE.out]
    exact ⟨rfl, rfl⟩
theorem RfTb.c3 (H : RfTb sv col k w g t) : w.cell? ⟨g, 3, none⟩ = some (.int .u64 t.base) := by
  cases sv with
  | true => obtain ⟨_, A, c, H⟩ := H; exact H.box.cell 3 rfl
  | false => obtain ⟨_, A, c, H⟩ := H; exact H.box.cell 3 rfl
/-- New, with whatever mode. -/
def NewRb (col : Col) (k : Nat) (mode m : Int) (w : World) (e : Ending) (w' : World) : Prop :=
  (nwTb mode m = 0 ∧ ∃ g, e = .returned (.tuple #[.pointer (some ⟨g, 0, none⟩), .int .i64 0]) ∧ DidTb (decide (mode = 1)) col k w g (newT m.toNat) w') ∨ (nwTb mode m ≠ 0 ∧ e = .returned (.tuple #[.pointer none, .int .i64 (nwTb mode m)]) ∧ Below w.heap.size w w')
theorem rbNew (ht : Tidy col w) (hk : 1 ≤ k) (mode m : Int) (h0 : -9223372036854775808 ≤ mode ∧ mode ≤ 9223372036854775807) (hn : -9223372036854775808 ≤ m ∧ m ≤ 9223372036854775807) :
    Calls Tryz.prog 9 #[.int .i64 mode, .int .i64 m] w (NewRb col k mode m w) := by
  by_cases c1 : mode = 1
  · subst c1
    have hE : nwTb 1 m = svE m := by unfold nwTb svE; rw [if_neg (by omega)]
    refine (rtNew ht hk m hn).mono fun e w' h => ?_
    rcases h with ⟨h1, h2⟩ | ⟨h1, h2, h3⟩
    · exact .inl ⟨hE.trans h1, h2⟩
    · exact .inr ⟨by rw [hE, h1]; decide, by rw [hE, h1]; exact h2, h3⟩
  by_cases c2 : mode = 2
  · subst c2
    have hE : nwTb 2 m = svE m := by unfold nwTb svE; rw [if_neg (by omega)]
    refine (rfNew ht hk m hn).mono fun e w' h => ?_
    rcases h with ⟨h1, h2⟩ | ⟨h1, h2, h3⟩
    · exact .inl ⟨hE.trans h1, h2⟩
    · exact .inr ⟨by rw [hE, h1]; decide, by rw [hE, h1]; exact h2, h3⟩
  · have hE := Lib.hid (show nwTb mode m = 11 from if_pos ⟨c1, c2⟩)
    have e1 : (mode != 1) = true := by rw [bne, beq_false_of_ne c1]; rfl
    have e2 : (mode != 2) = true := by rw [bne, beq_false_of_ne c2]; rfl
    go_enter Tryz.func9, Tryz.ntmps9
    go_wp2
    go_ret2
    refine .inr ⟨by rw [hE.out]; decide, ?_, Below.refl _ _⟩
    rw [hE.out]
    rfl
end
end Go.Proofs.YtajkcjbkbihgjaaGreat

/- The table that math/bits.TrailingZeros64 reads, as its initialiser lays it, in a world; it stays. Conditions: none beyond those typed. -/
namespace Go.Proofs.YtajkcjbkbihgjaaGreat
open Go.ChangeShapes Go.WideShapes Go.ChangeAt Go.RowKit
set_option linter.unusedVariables false
set_option linter.unusedSimpArgs false

def Tab (w : World) : Prop := ∀ j, j < 64 → w.cell? ⟨0, j, none⟩ = some (.int .u8 (Lib.deBruijn64tab.getD j 0))
/-- The table lies in a block that nobody writes. -/
structure TbC (col : Col) (w : World) : Prop where
  tab : Tab w
  col0 : col 0 = 0
section
variable {P : Nat → Prop} {col col' : Col} {w w' w0 : World}
theorem Tab.lt (h : Tab w) : 0 < w.heap.size := World.block_lt_of_cell? w _ (h 0 (by omega))
theorem TbC.keep (h : TbC col w) (hs : StepC P col w col' w') (h0 : ¬ P 0) : TbC col' w' :=
  ⟨fun j hj => hs.cell (h.tab j hj) (by show ¬ P (col 0); rw [h.col0]; exact h0), (hs.kept _ h.tab.lt).trans h.col0⟩
theorem Since.tb (h : Since w0 col w) (hT : Tab w0) : TbC col w :=
  ⟨fun j hj => (World.cell?_of_block (w := w0) (h.below.block _ hT.lt)).trans (hT j hj), h.elder _ hT.lt⟩
theorem Since.tab (h : Since w0 col w) (hT : Tab w0) : Tab w := (h.tb hT).tab
theorem Tab.below (h : Tab w) (hb : Below w.heap.size w w') : Tab w' := fun j hj => (World.cell?_of_block (w := w) (hb.block _ h.lt)).trans (h j hj)
end
end Go.Proofs.YtajkcjbkbihgjaaGreat

/- All that the statements use of the program's tables of either mode, as structures of contracts over a representation. Conditions: none beyond those typed. -/
namespace Go.Proofs.YtajkcjbkbihgjaaGreat
open Go.ChangeShapes Go.WideShapes Go.ChangeAt Go.RowKit
set_option linter.unusedVariables false
set_option linter.unusedSimpArgs false

/-- Table t of a mode lies in block g, with the base colour k. -/
abbrev RepTb := Bool → Col → Nat → World → Nat → TSt → Prop
/-- The greatest possible value of Untracked. -/
structure ProgTbl : Prop where
  limit : ∀ (w : World) (mode m total : Int), J64 mode → J64 m → W64 total → Calls Tryz.prog 10 #[.int .i64 mode, .int .i64 m, .int .u64 total] w fun e w' => e = .returned (.int .u64 (limE mode m total)) ∧ w' = w
/-- What a nil table returns. -/
structure ProgTbn : Prop where
  add : ∀ (w : World) (s : ByteArray) (x : Int), Calls Tryz.prog 16 #[.pointer none, .string s, .int .u64 x] w fun e w' => e = .returned (.int .i64 8) ∧ Below w.heap.size w w'
  get : ∀ (w : World) (s : ByteArray), Calls Tryz.prog 12 #[.pointer none, .string s] w fun e w' => ∃ x : En, e = .returned (.tuple #[.agg (VE x), .bool false]) ∧ Below w.heap.size w w'
  take : ∀ (w : World) (s : ByteArray), Calls Tryz.prog 13 #[.pointer none, .string s] w fun e w' => ∃ x : En, e = .returned (.tuple #[.agg (VE x), .bool false]) ∧ Below w.heap.size w w'
  swap : ∀ (w : World) (s : ByteArray) (x : En), Calls Tryz.prog 14 #[.pointer none, .string s, .agg (VE x)] w fun e w' => ∃ y : En, e = .returned (.tuple #[.agg (VE y), .int .i64 8]) ∧ Below w.heap.size w w'
  bounds : ∀ (w : World) (s : ByteArray), Calls Tryz.prog 15 #[.pointer none, .string s] w fun e w' => e = .returned (.tuple #[.agg (VB (0, 0)), .bool false]) ∧ Below w.heap.size w w'
  untr : ∀ w : World, Calls Tryz.prog 17 #[.pointer none] w fun e w' => e = .returned (.int .u64 0) ∧ Below w.heap.size w w'
  total : ∀ w : World, Calls Tryz.prog 18 #[.pointer none] w fun e w' => e = .returned (.int .u64 0) ∧ Below w.heap.size w w'
  len : ∀ w : World, Calls Tryz.prog 19 #[.pointer none] w fun e w' => e = .returned (.int .i64 0) ∧ Below w.heap.size w w'
  entries : ∀ w : World, Calls Tryz.prog 20 #[.pointer none] w fun e w' => ∃ A c, e = .returned (.slice A 0 c) ∧ Below w.heap.size w w'
section
variable {PT : RepTb} {sv : Bool} {w0 W W' : World} {col col' : Col} {k g : Nat} {t t' : TSt}
end
end Go.Proofs.YtajkcjbkbihgjaaGreat

/- A deck beside other objects: it lies in a block of colour 1. Conditions: none beyond those typed. -/
namespace Go.Proofs.YtajkcjbkbihgjaaGreat
open Go.ChangeShapes Go.WideShapes Go.ChangeAt Go.RowKit
set_option linter.unusedVariables false
set_option linter.unusedSimpArgs false

section
variable {w W W' : World} {col col' : Col} {gd m d : Nat} {A : Option Addr} {P : Nat → Prop}
end
end Go.Proofs.YtajkcjbkbihgjaaGreat

/- Deck.Entry. Conditions: none beyond those typed. -/
namespace Go.Proofs.YtajkcjbkbihgjaaGreat
open Go.ChangeShapes Go.WideShapes Go.ChangeAt Go.RowKit
set_option linter.unusedVariables false
set_option linter.unusedSimpArgs false
set_option maxRecDepth 100000

end Go.Proofs.YtajkcjbkbihgjaaGreat

/- The plain mathematics of open addressing: slots in a ring, each element as near behind its home as the elder ones let it, and a deletion that moves later elements back. Conditions: none beyond those typed. -/
namespace Go.Proofs.YtajkcjbkbihgjaaGreat
set_option linter.unusedVariables false
set_option linter.unusedSimpArgs false

/-- How many steps lead from place h to place i in a ring of N. -/
def dst (N h i : Nat) : Nat := if h ≤ i then i - h else i + N - h
section
variable {N h i j p q : Nat}
end
/-- Slots. -/
abbrev Tb (α : Type) := List (Option (ByteArray × α))
section
variable {α : Type}
def Occ (t : Tb α) (j : Nat) : Prop := ∃ e, t[j]? = some (some e)
def Emp (t : Tb α) (j : Nat) : Prop := t[j]? = some none
variable {t t' : Tb α} {home : ByteArray → Nat} {i j p q : Nat} {k s : ByteArray} {v u : α} {e : ByteArray × α}
theorem Occ.lt (h : Occ t j) : j < t.length := by obtain ⟨_, h⟩ := h; exact (List.getElem?_eq_some_iff.1 h).1
/-- What stands in a table: a key once, and no gap between a home and its element. -/
structure LP (home : ByteArray → Nat) (t : Tb α) : Prop where
  hm : ∀ k, home k < t.length
  uniq : ∀ (i j : Nat) (k : ByteArray) (v u : α), t[i]? = some (some (k, v)) → t[j]? = some (some (k, u)) → i = j
  path : ∀ (p : Nat) (k : ByteArray) (v : α), t[p]? = some (some (k, v)) → ∀ q, q < t.length → dst t.length (home k) q < dst t.length (home k) p → Occ t q
theorem occ_set (hi : i < t.length) : Occ (t.set i (some e)) j ↔ j = i ∨ Occ t j := by
  unfold Occ
  by_cases e' : i = j
  · subst e'; simp [hi]
  · rw [List.getElem?_set_ne e']
    constructor
    · exact .inr
    · rintro (h | h)
      · exact absurd h.symm e'
      · exact h
theorem tb_set_at (hi : i < t.length) {x : Option (ByteArray × α)} : (t.set i x)[j]? = if i = j then some x else t[j]? := by
  rw [List.getElem?_set]
  by_cases e' : i = j
  · subst e'; simp [hi]
  · rw [if_neg e', if_neg e']
/-- A new key in the first empty slot on its way. -/
theorem LP.add (h : LP home t) (hi : Emp t i) (hp : ∀ q, q < t.length → dst t.length (home k) q < dst t.length (home k) i → Occ t q) (hno : ∀ (p : Nat) (v : α), t[p]? ≠ some (some (k, v))) (v : α) : LP home (t.set i (some (k, v))) := by
  have hil : i < t.length := (List.getElem?_eq_some_iff.1 hi).1
  refine ⟨fun k => by rw [List.length_set]; exact h.hm k, fun a b c x y ha hb => ?_, fun p c x hc q hq hd => ?_⟩
  · rw [tb_set_at hil] at ha hb
    by_cases e1 : i = a
    · by_cases e2 : i = b
      · omega
      · rw [if_pos e1] at ha; injection ha with ha; injection ha with ha; injection ha with ha1 ha2
        rw [if_neg e2, ← ha1] at hb
        exact absurd hb (hno b y)
    · by_cases e2 : i = b
      · rw [if_pos e2] at hb; injection hb with hb; injection hb with hb; injection hb with hb1 hb2
        rw [if_neg e1, ← hb1] at ha
        exact absurd ha (hno a x)
      · rw [if_neg e1] at ha; rw [if_neg e2] at hb
        exact h.uniq a b c x y ha hb
  · rw [List.length_set] at hq hd
    rw [occ_set hil]
    rw [tb_set_at hil] at hc
    by_cases e1 : i = p
    · subst e1
      rw [if_pos rfl] at hc; injection hc with hc; injection hc with hc; injection hc with hc1 hc2
      subst hc1
      exact .inr (hp q hq hd)
    · rw [if_neg e1] at hc
      exact .inr (h.path p c x hc q hq hd)
/-- What a table holds. -/
def Has (t : Tb α) (k : ByteArray) (v : α) : Prop := some (k, v) ∈ t
theorem has_iff : Has t k v ↔ ∃ i : Nat, t[i]? = some (some (k, v)) := List.mem_iff_getElem?
/-- How what a table holds changes. -/
theorem has_add (hi : Emp t i) {c : ByteArray} {x : α} : Has (t.set i (some (k, v))) c x ↔ (c = k ∧ x = v) ∨ Has t c x := by
  have hil : i < t.length := (List.getElem?_eq_some_iff.1 hi).1
  rw [has_iff, has_iff]
  constructor
  · rintro ⟨a, ha⟩
    rw [tb_set_at hil] at ha
    by_cases e : i = a
    · rw [if_pos e] at ha; injection ha with ha; injection ha with ha; injection ha with h1 h2
      exact .inl ⟨h1.symm, h2.symm⟩
    · rw [if_neg e] at ha; exact .inr ⟨a, ha⟩
  · rintro (⟨rfl, rfl⟩ | ⟨a, ha⟩)
    · exact ⟨i, by rw [tb_set_at hil, if_pos rfl]⟩
    · refine ⟨a, ?_⟩
      rw [tb_set_at hil, if_neg fun e => by subst e; unfold Emp at hi; rw [hi] at ha; cases ha]; exact ha
/-- The slots hold the table m. -/
def RelT (t : Tb α) (m : MSt α) : Prop := ∀ k v, Has t k v ↔ m.look k = some v
variable {m : MSt α}
theorem RelT.new {n N : Nat} : RelT (List.replicate N none) (newM α n) := fun k v => by
  rw [newM_look]
  constructor
  · intro h; have := (List.mem_replicate.1 h).2; cases this
  · intro h; cases h
theorem LP.new {N : Nat} (hm : ∀ k, home k < N) : LP home (List.replicate N (none : Option (ByteArray × α))) :=
  have hno : ∀ (i : Nat) (e : ByteArray × α), (List.replicate N (none : Option (ByteArray × α)))[i]? ≠ some (some e) := fun i e h => by have := (List.mem_replicate.1 (List.mem_of_getElem? h)).2; cases this
  ⟨fun k => by rw [List.length_replicate]; exact hm k, fun i j k v u h _ => absurd h (hno _ _), fun p k v h => absurd h (hno _ _)⟩
theorem RelT.add (R : RelT t m) (G : GoodM m) (hi : Emp t i) (hl : m.look k = none) (hn : m.l.length ≠ m.n) (v : α) : RelT (t.set i (some (k, v))) (m.put k v).2 := fun c x => by
  rw [has_add hi, R c x, put_look G k v (put_fresh hl hn v).1]
  by_cases e : c = k
  · subst e; rw [if_pos rfl, hl]
    constructor
    · rintro (⟨_, rfl⟩ | h)
      · rfl
      · cases h
    · intro h; injection h with h; exact .inl ⟨rfl, h.symm⟩
  · rw [if_neg e]
    exact ⟨fun h => h.resolve_left fun h => e h.1, .inr⟩
end
end Go.Proofs.YtajkcjbkbihgjaaGreat

/- The specified table (heavykeysref08.Map) in memory: at, Get. Conditions: none beyond those typed. -/
namespace Go.Proofs.YtajkcjbkbihgjaaGreat
open Go.ChangeShapes Go.WideShapes Go.ChangeAt Go.RowKit
set_option linter.unusedVariables false
set_option linter.unusedSimpArgs false
set_option maxRecDepth 100000

section
variable {P : Nat → Prop} {col col' : Col} {w w' : World} {k g n n' : Nat} {m : MSt Int} {K K' : List ByteArray} {V V' : List Int} {vK vV v' : Value} {s : ByteArray} {i : Nat} {p : ByteArray × Int}
end
end Go.Proofs.YtajkcjbkbihgjaaGreat

/- The specified table (heavykeysref08.Map) in memory: Put. Conditions: none beyond those typed. -/
namespace Go.Proofs.YtajkcjbkbihgjaaGreat
open Go.ChangeShapes Go.WideShapes Go.ChangeAt Go.RowKit
set_option linter.unusedVariables false
set_option linter.unusedSimpArgs false
set_option maxRecDepth 100000

section
variable {P : Nat → Prop} {col col' : Col} {w w' : World} {k g n : Nat} {m : MSt Int} {vK vV v' : Value} {s : ByteArray} {i : Nat} {p : ByteArray × Int}
end
end Go.Proofs.YtajkcjbkbihgjaaGreat

/- The specified table (heavykeysref08.Map) in memory: Delete. Conditions: none beyond those typed. -/
namespace Go.Proofs.YtajkcjbkbihgjaaGreat
open Go.ChangeShapes Go.WideShapes Go.ChangeAt Go.RowKit
set_option linter.unusedVariables false
set_option linter.unusedSimpArgs false
set_option maxRecDepth 100000

section
variable {P : Nat → Prop} {col col' : Col} {w w' : World} {k g n : Nat} {m : MSt Int} {vK vV v' : Value} {s : ByteArray} {i : Nat} {p : ByteArray × Int}
end
end Go.Proofs.YtajkcjbkbihgjaaGreat

/- Words for slices of uint64, and the specified hash as a plain function. Conditions: none beyond those typed. -/
namespace Go.Proofs.YtajkcjbkbihgjaaGreat
open Go.ChangeShapes Go.WideShapes Go.ChangeAt Go.RowKit
set_option linter.unusedVariables false
set_option linter.unusedSimpArgs false
set_option maxRecDepth 100000

/-- The slice value '.slice A n c' reads as these numbers of 64 bits. -/
def RdU (w : World) (A : Option Addr) (n c : Nat) (l : List Int) : Prop :=
  l.length = n ∧ n ≤ c ∧ c ≤ maxLen ∧ (∀ z ∈ l, 0 ≤ z ∧ z ≤ 18446744073709551615) ∧
    ∀ j z, l[j]? = some z → ∃ b o, A = some ⟨b, o, none⟩ ∧ w.cell? ⟨b, o + j, none⟩ = some (.int .u64 z)
section
variable {w w' : World} {A : Option Addr} {n c : Nat} {l : List Int}
theorem RdU.len (h : RdU w A n c l) : l.length = n := h.1
theorem RdU.cap (h : RdU w A n c l) : n ≤ c := h.2.1
theorem RdU.max (h : RdU w A n c l) : c ≤ 9223372036854775807 := h.2.2.1
theorem RdU.at_ (h : RdU w A n c l) {k : Nat} (hk : k < n) :
    ∃ b o z, A = some ⟨b, o, none⟩ ∧ l[k]? = some z ∧ 0 ≤ z ∧ z ≤ 18446744073709551615 ∧ b < w.heap.size ∧ w.cell? ⟨b, o + k, none⟩ = some (.int .u64 z) := by
  have hl : k < l.length := by rw [h.1]; exact hk
  have hg : l[k]? = some l[k] := List.getElem?_eq_getElem hl
  obtain ⟨b, o, hA, hc⟩ := h.2.2.2.2 k _ hg
  have hb := h.2.2.2.1 _ (List.getElem_mem hl)
  exact ⟨b, o, l[k], hA, hg, hb.1, hb.2, World.block_lt_of_cell? w ⟨b, o + k, none⟩ hc, hc⟩
theorem RdU.below (h : RdU w A n c l) (hb : Below w.heap.size w w') : RdU w' A n c l :=
  ⟨h.1, h.2.1, h.2.2.1, h.2.2.2.1, fun j z hz => by
    obtain ⟨b, o, hA, hc⟩ := h.2.2.2.2 j z hz
    exact ⟨b, o, hA, (hb.cell (World.block_lt_of_cell? w _ hc)).trans hc⟩⟩
theorem RdU.drewN (h : RdU w A n c l) (k : Nat) : RdU (w.drewN k) A n c l := h
theorem RdU.take (h : RdU w A n c l) {k : Nat} (hk : k ≤ n) : RdU w A k c (l.take k) := by
  refine ⟨by rw [List.length_take, h.1]; omega, Nat.le_trans hk h.2.1, h.2.2.1, fun z hz => h.2.2.2.1 z (List.mem_of_mem_take hz), fun j z hz => ?_⟩
  rw [List.getElem?_take] at hz
  split at hz
  · exact h.2.2.2.2 j z hz
  · cases hz
end
/-- rot: P7.2, as the model reckons. -/
def rotU (h : Int) (k : Nat) : Int := bits .or .u64 (IntKind.u64.wrap (h * 2 ^ k)) (h / 2 ^ (64 - k))
def tabE (n : Nat) : Int := if n = 16 then 0 else 11
/-- One byte of a key. -/
def hStep (t : List Int) (h : Int) (b : Nat) : Int := IntKind.u64.wrap (IntKind.u64.wrap (rotU (bits .xor .u64 (rotU h 5) (t.getD (b / 16) 0)) 7 + t.getD (b % 16) 0) * 11400714819323198485)
def hAll (t : List Int) (h : Int) (key : List UInt8) : Int := key.foldl (fun h b => hStep t h b.toNat) h
def hFin (h : Int) : Int := bits .xor .u64 h (h / 4294967296)
/-- hash.Key, P7.2. -/
def hashP (t : List Int) (seed : Int) (key : ByteArray) : Int := if t.length = 16 then hFin (hAll t seed key.data.toList) else 0
/-- hash.Slot, P7.4. -/
def slotP (h n : Int) : Int := if n < 1 then 0 else h % n
end Go.Proofs.YtajkcjbkbihgjaaGreat

/- The specified table (heavykeysref08.Map) in memory: Keys, NewMap; SameTexts. Conditions: none beyond those typed. -/
namespace Go.Proofs.YtajkcjbkbihgjaaGreat
open Go.ChangeShapes Go.WideShapes Go.ChangeAt Go.RowKit
set_option linter.unusedVariables false
set_option linter.unusedSimpArgs false
set_option maxRecDepth 100000

section
variable {P : Nat → Prop} {col col' : Col} {w w' : World} {k g n : Nat} {m : MSt Int} {vK vV v' : Value} {s : ByteArray} {i : Nat}
def mapE (n : Int) (t : Nat) : Int := if n < 1 ∨ 8192 < n then 1 else tabE t
end
end Go.Proofs.YtajkcjbkbihgjaaGreat

/- All that the statements use of the program's tables, as one structure of contracts over a representation. Conditions: none beyond those typed. -/
namespace Go.Proofs.YtajkcjbkbihgjaaGreat
open Go.ChangeShapes Go.WideShapes Go.ChangeAt Go.RowKit
set_option linter.unusedVariables false
set_option linter.unusedSimpArgs false

/-- Table m lies in block g, with the base colour k. -/
abbrev RepM (α : Type) := Col → Nat → World → Nat → MSt α → Prop
def DidPM {α : Type} (PM : RepM α) (col : Col) (k : Nat) (w : World) (g : Nat) (m : MSt α) (w' : World) : Prop := ∃ col', PM col' k w' g m ∧ StepC (Rng k) col w col' w'
def NewPM {α : Type} (PM : RepM α) (col : Col) (k : Nat) (n : Int) (t : Nat) (w : World) (e : Ending) (w' : World) : Prop :=
  (mapE n t = 0 ∧ ∃ g, e = .returned (.tuple #[.pointer (some ⟨g, 0, none⟩), .int .i64 0]) ∧ DidPM PM col k w g (newM α n.toNat) w') ∨ (mapE n t ≠ 0 ∧ e = .returned (.tuple #[.pointer none, .int .i64 (mapE n t)]) ∧ Below w.heap.size w w')
/-- A slice of words that never turns. -/
structure RdU0 (col : Col) (w : World) (A : Option Addr) (n c : Nat) (l : List Int) : Prop where
  rd : RdU w A n c l
  imm : Imm col A n
section
variable {α : Type} {PM : RepM α} {w0 W W' : World} {col col' : Col} {k g : Nat} {m m' : MSt α} {P : Nat → Prop} {V : α → Value} {z : α} {ok : α → Prop} {fN fP fG fD fL : Nat} {A : Option Addr} {n c : Nat} {T : List Int}
theorem RdU0.keep (h : RdU0 col W A n c T) (hs : StepC P col W col' W') (hp : ¬ P 0) : RdU0 col' W' A n c T := by
  have hl : 0 < n → ∀ b o sp, A = some ⟨b, o, sp⟩ → b < W.heap.size := fun hn b o sp e => by
    obtain ⟨b', o', z, e', _, _, hc⟩ := h.rd.at_ hn
    rw [e'] at e; injection e with e; injection e with e1 e2; subst e1
    exact hc.2.1
  refine ⟨⟨h.rd.1, h.rd.2.1, h.rd.2.2.1, h.rd.2.2.2.1, fun j a ha => ?_⟩, h.imm.step hs hl⟩
  obtain ⟨b, o, hA, hc⟩ := h.rd.2.2.2.2 j a ha
  have hn : 0 < n := by
    have := (List.getElem?_eq_some_iff.1 ha).1
    have := h.rd.len
    omega
  exact ⟨b, o, hA, (World.cell?_of_block (w := W) (hs.block b (hl hn b o none hA) (by rw [h.imm hn b o none hA]; exact hp))).trans hc⟩
theorem RdU0.below (h : RdU0 col W A n c T) (ht : Tidy col W) (hb : Below W.heap.size W W') : RdU0 col W' A n c T := h.keep (P := fun _ => False) (StepC.below ht hb) (fun h => h)
end
end Go.Proofs.YtajkcjbkbihgjaaGreat

/- Package hash: Check, Key, Row, Slot. Conditions: none beyond those typed. -/
namespace Go.Proofs.YtajkcjbkbihgjaaGreat
open Go.ChangeShapes Go.WideShapes Go.ChangeAt Go.RowKit
set_option linter.unusedVariables false
set_option linter.unusedSimpArgs false
set_option maxRecDepth 100000

set_option maxHeartbeats 400000 in
theorem hcheck_any (A : Option Addr) (n c : Nat) (w : World) (hn : n ≤ 9223372036854775807) :
    Calls Tryz.prog 54 #[.slice A n c] w fun e w' => e = .returned (.int .i64 (tabE n)) ∧ w = w' := by
  by_cases h : n = 16
  · subst h
    go_enter Tryz.func54, Tryz.ntmps54
    go_wp2
    go_ret
    exact ⟨rfl, rfl⟩
  · have HR := Lib.hid (show tabE n = 11 from if_neg h)
    have hv : ((n : Int) != 16) = true := bne_iff_ne.2 (by omega)
    go_enter Tryz.func54, Tryz.ntmps54
    go_wp2
    go_ret
    exact ⟨ret_i64 HR.out.symm, rfl⟩
end Go.Proofs.YtajkcjbkbihgjaaGreat

/- Rows of numbers of 64 bits without a sign. Conditions: none beyond those typed. -/
namespace Go.Proofs.YtajkcjbkbihgjaaGreat
open Go.ChangeShapes Go.WideShapes Go.ChangeAt Go.RowKit
set_option linter.unusedVariables false
set_option linter.unusedSimpArgs false

/-- Numbers of 64 bits as elements. -/
def kU : Kind Int where
  ty := 22
  sl := 99
  k := 1
  by_ := 8
  zero := .int .u64 0
  enc := fun z => [.int .u64 z]
  pos := by omega
  len := fun _ => rfl
  one := fun a u hu => by rw [List.mem_singleton.1 hu]; rfl
  under := Tryz.underlying99
  info := by kernel_rfl
  zk := rfl
  small := by omega
theorem RdU.toK {w : World} {A : Option Addr} {n c : Nat} {l : List Int} (h : RdU w A n c l) : RdG kU w A n c l := by
  refine ⟨h.1, h.2.1, h.2.2.1, fun j a ha => ?_⟩
  obtain ⟨b, o, hA, hc⟩ := h.2.2.2.2 j a ha
  refine ⟨b, o, hA, fun i u hu => ?_⟩
  have hi : i < 1 := (List.getElem?_eq_some_iff.1 hu).1
  obtain rfl : i = 0 := by omega
  have hu' : Value.int .u64 a = u := by injection hu
  rw [show kU.k = 1 from rfl, Nat.mul_one, Nat.add_zero, ← hu']
  exact hc
theorem RdU.ofK {w : World} {A : Option Addr} {n c : Nat} {l : List Int} (h : RdG kU w A n c l) (hb : ∀ z ∈ l, 0 ≤ z ∧ z ≤ 18446744073709551615) : RdU w A n c l := by
  refine ⟨h.1, h.2.1, h.2.2.1, hb, fun j a ha => ?_⟩
  obtain ⟨b, o, hA, hc⟩ := h.2.2.2 j a ha
  refine ⟨b, o, hA, ?_⟩
  have := hc 0 (.int .u64 a) rfl
  rw [show kU.k = 1 from rfl, Nat.mul_one, Nat.add_zero] at this
  exact this
end Go.Proofs.YtajkcjbkbihgjaaGreat

/- Places of the program's tables in memory, and what stays true of them. Conditions: none beyond those typed. -/
namespace Go.Proofs.YtajkcjbkbihgjaaGreat
open Go.ChangeShapes Go.WideShapes Go.ChangeAt Go.RowKit
set_option linter.unusedVariables false
set_option linter.unusedSimpArgs false
set_option maxRecDepth 100000

/-- A place as it lies in memory: in use, the place of the key's hash, the key, the value. -/
abbrev Pl (α : Type) := Bool × Int × ByteArray × α
/-- A free place has the zero value. -/
def plOf {α : Type} (z : α) (home : ByteArray → Nat) : Option (ByteArray × α) → Pl α
  | none => (false, 0, ⟨#[]⟩, z)
  | some e => (true, (home e.1 : Int), e.1, e.2)
def plE {α : Type} (V : α → Value) (r : Pl α) : List Value := [.bool r.1, .int .i64 r.2.1, .string r.2.2.1, V r.2.2.2]
/-- The place of a key's hash. -/
def homeT (T : List Int) (seed : Int) (N : Nat) (s : ByteArray) : Nat := (slotP (hashP T seed s) N).toNat
theorem home_val (T : List Int) (seed : Int) {N : Nat} (hN : 0 < N) (s : ByteArray) : slotP (hashP T seed s) N = (homeT T seed N s : Int) ∧ homeT T seed N s < N := by
  have h0 := Int.emod_nonneg (hashP T seed s) (show (N : Int) ≠ 0 by omega)
  have h1 := Int.emod_lt_of_pos (hashP T seed s) (show (0 : Int) < N by omega)
  unfold homeT slotP
  rw [if_neg (by omega)]
  omega
section
variable {α : Type} {t : Tb α} {home : ByteArray → Nat} {m : MSt α} {i j : Nat} {s : ByteArray} {v : α}
end
/-- A copy of a table in new memory. -/
def CloneOut (w : World) (n : Nat) (T : List Int) (e : Ending) (w' : World) : Prop := ∃ b c, e = .returned (.slice (some ⟨b, 0, none⟩) n c) ∧ RdU w' (some ⟨b, 0, none⟩) n c T ∧ w.heap.size ≤ b ∧ b < w'.heap.size ∧ Below w.heap.size w w'
set_option maxHeartbeats 400000 in
theorem cloneU_any {A : Option Addr} {n c : Nat} {T : List Int} {w : World} (h : RdU w A n c T) (hn : n ≤ 1000000) (h0 : 0 < n) : Calls Tryz.prog 55 #[.slice A n c] w (CloneOut w n T) := by
  have hln := h.len
  have hb := h.2.2.2.1
  obtain ⟨b0, o0, z0, rfl, _⟩ := h.at_ h0
  have hnil : ∀ W, (binOp .eql 99 (.slice (some ⟨b0, o0, none⟩) n c) (.slice none 0 0)).run Tryz.prog W = .ok (.bool false) W := fun W => Lib.run_eql_slice_some_nil W _ _ _ Tryz.underlying99
  have b1 : Below w.heap.size w (w.alloc (.cells #[] 22)) := (Below.refl _ _).alloc (Nat.le_refl _) _
  have R1 := h.toK.below b1
  have O1 : OwnK kU (w.alloc (.cells #[] 22)) (.slice (some ⟨w.heap.size, 0, none⟩) 0 0) [] := OwnK.empty' kU rfl rfl
  have N1 : New w (.slice (some ⟨w.heap.size, 0, none⟩) 0 0) := New.lit (Nat.le_refl _)
  have hby : ([] : List Int).length + n ≤ 1000000000 := by simp; omega
  have hl2 : ([] ++ T).length = n := by simp [hln]
  clear h
  go_enter Tryz.func55, Tryz.ntmps55
  go_wp2_with (at_builtin; refine wpList_appK kU rfl (.tmp 5) (.tmp 6) rfl _ [] rfl _ n c T rfl O1 R1 hby ?_; intro v2 w2 O2 G2 hat2; have N2 : New w v2 := New.app N1 b1 hat2; have B2 := b1.grown G2 b1.size (fun q hq => N1 q hq); obtain ⟨A2, c2, rfl, R2, hh⟩ := O2.form hl2)
  go_ret
  rcases hh with ⟨_, h2, _⟩ | ⟨g, rfl, hg⟩
  · simp at h2; subst h2; simp at hln; omega
  · exact ⟨g, c2, rfl, RdU.ofK (by simpa using R2) hb, N2 g rfl, hg, B2⟩
theorem ne_ge {a b c : Nat} (h : c ≤ a) (h' : b < c) : a ≠ b := by omega
theorem ne_lt {a b c : Nat} (h : a < c) (h' : b = c) : a ≠ b := by omega
end Go.Proofs.YtajkcjbkbihgjaaGreat

/- The program's tables of int values in memory: the box, the row of places. Conditions: none beyond those typed. -/
namespace Go.Proofs.YtajkcjbkbihgjaaGreat
open Go.ChangeShapes Go.WideShapes Go.ChangeAt Go.RowKit
set_option linter.unusedVariables false
set_option linter.unusedSimpArgs false
set_option maxRecDepth 100000

/-- Places with their values. -/
def kPi : Kind (Pl Int) where
  ty := 168
  sl := 125
  k := 4
  by_ := 40
  zero := .agg #[.bool false, .int .i64 0, .string ⟨#[]⟩, .int .i64 0]
  enc := plE (fun z : Int => Value.int .i64 z)
  pos := by omega
  len := fun _ => rfl
  one := fun a u hu => by simp [plE] at hu; rcases hu with rfl | rfl | rfl | rfl <;> rfl
  under := Tryz.underlying125
  info := by kernel_rfl
  zk := rfl
  small := by omega
/-- A table of the program: its box and its row of N places. -/
structure Mxi (col : Col) (k : Nat) (w : World) (g n u N : Nat) (T : List Int) (seed : Int) (A : Option Addr) (cT b c : Nat) (l : List (Pl Int)) : Prop where
  box : BoxC col w g k #[.slice A 16 cT, .int .u64 seed, .int .i64 n, .int .i64 u, .slice (some ⟨b, 0, none⟩) N c] 127
  tab : RdU0 col w A 16 cT T
  row : OwnKc kPi col w (k + 1) (.slice (some ⟨b, 0, none⟩) N c) l
  s0 : 0 ≤ seed ∧ seed ≤ 18446744073709551615
  n1 : 1 ≤ n ∧ n ≤ 8192
  nN : N = 2 * n
  k1 : 1 ≤ k
section
variable {P : Nat → Prop} {col col' : Col} {w w' : World} {k g n u N : Nat} {T : List Int} {seed : Int} {A : Option Addr} {cT b c : Nat} {l : List (Pl Int)} {i : Nat} {r : Pl Int}
theorem Mxi.keep (h : Mxi col k w g n u N T seed A cT b c l) (hs : StepC P col w col' w') (hp : ∀ c, Rng k c → ¬ P c) (h0 : ¬ P 0) : Mxi col' k w' g n u N T seed A cT b c l :=
  ⟨h.box.keep hs (hp _ ⟨Nat.le_refl _, by omega⟩), h.tab.keep hs h0, h.row.keep hs (hp _ ⟨by omega, by omega⟩), h.s0, h.n1, h.nN, h.k1⟩
theorem Mxi.below (h : Mxi col k w g n u N T seed A cT b c l) (ht : Tidy col w) (hb : Below w.heap.size w w') : Mxi col k w' g n u N T seed A cT b c l := h.keep (P := fun _ => False) (StepC.below ht hb) (fun _ _ h => h) (fun h => h)
theorem Mxi.drewN (h : Mxi col k w g n u N T seed A cT b c l) (ht : Tidy col w) (j : Nat) : Mxi col k (w.drewN j) g n u N T seed A cT b c l := h.below ht (below_drewN (Below.refl _ _) j)
theorem Mxi.len (h : Mxi col k w g n u N T seed A cT b c l) : l.length = N := h.row.own.len
theorem Mxi.c0 (h : Mxi col k w g n u N T seed A cT b c l) : w.cell? ⟨g, 0, none⟩ = some (.slice A 16 cT) := h.box.cell 0 rfl
theorem Mxi.c1 (h : Mxi col k w g n u N T seed A cT b c l) : w.cell? ⟨g, 1, none⟩ = some (.int .u64 seed) := h.box.cell 1 rfl
theorem Mxi.c2 (h : Mxi col k w g n u N T seed A cT b c l) : w.cell? ⟨g, 2, none⟩ = some (.int .i64 n) := h.box.cell 2 rfl
theorem Mxi.c3 (h : Mxi col k w g n u N T seed A cT b c l) : w.cell? ⟨g, 3, none⟩ = some (.int .i64 u) := h.box.cell 3 rfl
theorem Mxi.c4 (h : Mxi col k w g n u N T seed A cT b c l) : w.cell? ⟨g, 4, none⟩ = some (.slice (some ⟨b, 0, none⟩) N c) := h.box.cell 4 rfl
theorem Mxi.cap (h : Mxi col k w g n u N T seed A cT b c l) : N ≤ c ∧ c ≤ 9223372036854775807 := ⟨h.row.own.reads.cap, h.row.own.reads.max⟩
theorem Mxi.at_ (h : Mxi col k w g n u N T seed A cT b c l) (hr : l[i]? = some r) :
    w.cell? ⟨b, i * 4, none⟩ = some (.bool r.1) ∧ w.cell? ⟨b, i * 4 + 1, none⟩ = some (.int .i64 r.2.1) ∧ w.cell? ⟨b, i * 4 + 2, none⟩ = some (.string r.2.2.1) ∧ w.cell? ⟨b, i * 4 + 3, none⟩ = some ((fun z : Int => Value.int .i64 z) r.2.2.2) ∧ ∀ z, w.frozen? ⟨b, z, none⟩ = false :=
  ⟨h.row.own.cell hr (i := 0) rfl, h.row.own.cell hr (i := 1) rfl, h.row.own.cell hr (i := 2) rfl, h.row.own.cell hr (i := 3) rfl, fun z => h.row.own.free z⟩
/-- A place is written. -/
theorem Mxi.put (h : Mxi col k w g n u N T seed A cT b c l) (ht : Tidy col w) (hi : i < N) (r : Pl Int) :
    Mxi col k ((((w.setCell ⟨b, i * 4, none⟩ (.bool r.1)).setCell ⟨b, i * 4 + 1, none⟩ (.int .i64 r.2.1)).setCell ⟨b, i * 4 + 2, none⟩ (.string r.2.2.1)).setCell ⟨b, i * 4 + 3, none⟩ ((fun z : Int => Value.int .i64 z) r.2.2.2)) g n u N T seed A cT b c (l.set i r) ∧
      StepC (fun d => d = k + 1) col w col ((((w.setCell ⟨b, i * 4, none⟩ (.bool r.1)).setCell ⟨b, i * 4 + 1, none⟩ (.int .i64 r.2.1)).setCell ⟨b, i * 4 + 2, none⟩ (.string r.2.2.1)).setCell ⟨b, i * 4 + 3, none⟩ ((fun z : Int => Value.int .i64 z) r.2.2.2)) := by
  have hl := h.len
  have hg := List.getElem?_eq_getElem (show i < l.length by omega)
  obtain ⟨h1, s1⟩ := h.row.put4 ht rfl hg (a' := r) (u0 := .bool r.1) (u1 := .int .i64 r.2.1) (u2 := .string r.2.2.1) (u3 := (fun z : Int => Value.int .i64 z) r.2.2.2) (p0 := (r.1, l[i].2.1, l[i].2.2.1, l[i].2.2.2)) (p1 := (r.1, r.2.1, l[i].2.2.1, l[i].2.2.2)) (p2 := (r.1, r.2.1, r.2.2.1, l[i].2.2.2)) rfl rfl rfl rfl
  have h0 : ¬ (0 = k + 1) := by omega
  exact ⟨⟨h.box.keep s1 (by omega), h.tab.keep s1 h0, h1, h.s0, h.n1, h.nN, h.k1⟩, s1⟩
end
end Go.Proofs.YtajkcjbkbihgjaaGreat

/- The program's tables of int values: where a search ends. Conditions: none beyond those typed. -/
namespace Go.Proofs.YtajkcjbkbihgjaaGreat
open Go.ChangeShapes Go.WideShapes Go.ChangeAt Go.RowKit
set_option linter.unusedVariables false
set_option linter.unusedSimpArgs false
set_option maxRecDepth 100000

section
variable {P : Nat → Prop} {col col' : Col} {w w' : World} {k g n u N : Nat} {T : List Int} {seed : Int} {A : Option Addr} {cT b c : Nat} {t : Tb Int} {home : ByteArray → Nat} {s : ByteArray}
end
end Go.Proofs.YtajkcjbkbihgjaaGreat

/- The program's tables of int values: a deletion, which moves later elements back. Conditions: none beyond those typed. -/
namespace Go.Proofs.YtajkcjbkbihgjaaGreat
open Go.ChangeShapes Go.WideShapes Go.ChangeAt Go.RowKit
set_option linter.unusedVariables false
set_option linter.unusedSimpArgs false
set_option maxRecDepth 100000

section
variable {P : Nat → Prop} {col col' : Col} {w w' W W' : World} {k g n u N : Nat} {T : List Int} {seed : Int} {A : Option Addr} {cT b c : Nat} {t t0 : Tb Int} {home : ByteArray → Nat} {s kk : ByteArray} {m : MSt Int} {e hh j i0 : Nat} {x : Option (ByteArray × Int)} {v : Int}
end
end Go.Proofs.YtajkcjbkbihgjaaGreat

/- strings.Clone. Conditions: a text that fits into memory. -/
namespace Go.Proofs.YtajkcjbkbihgjaaGreat
open Go.ChangeShapes Go.WideShapes Go.ChangeAt Go.RowKit
set_option linter.unusedVariables false
set_option linter.unusedSimpArgs false
end Go.Proofs.YtajkcjbkbihgjaaGreat

/- The program's tables of int values: Get, Put, Delete, Len, New. Conditions: none beyond those typed. -/
namespace Go.Proofs.YtajkcjbkbihgjaaGreat
open Go.ChangeShapes Go.WideShapes Go.ChangeAt Go.RowKit
set_option linter.unusedVariables false
set_option linter.unusedSimpArgs false
set_option maxRecDepth 100000

/-- The program's table m lies in block g. -/
def PMi : RepM Int := fun col k w g m => GoodM m ∧ ∃ (T : List Int) (seed : Int) (A : Option Addr) (cT b c N : Nat) (t : Tb Int), Mxi col k w g m.n m.l.length N T seed A cT b c (t.map (plOf (0 : Int) (homeT T seed N))) ∧ LP (homeT T seed N) t ∧ RelT t m
section
variable {P : Nat → Prop} {col col' : Col} {w w' W : World} {k g n u N : Nat} {T : List Int} {seed : Int} {A : Option Addr} {cT b c gm bc : Nat} {t : Tb Int} {home : ByteArray → Nat} {s : ByteArray} {m : MSt Int} {v : Int}
theorem PMi.keep (h : PMi col k w g m) (hs : StepC P col w col' w') (hp : ∀ c, Rng k c → ¬ P c) (h0 : ¬ P 0) : PMi col' k w' g m := by
  obtain ⟨hG, T, seed, A, cT, b, c, N, t, M, hL, R⟩ := h
  exact ⟨hG, T, seed, A, cT, b, c, N, t, M.keep hs hp h0, hL, R⟩
end
end Go.Proofs.YtajkcjbkbihgjaaGreat
