/- Words laid together in one text. Conditions: none beyond those typed. -/
import Derived.Test.YtajkcjbkbihgjaaGreatZ02
import Derived.Test.YtajkcjbkbihgjaaGreatZ01
import Derived.Deep.RegionHeld3
import Derived.Deep.CutRange
import Derived.BigQuiet
import Derived.StillTailTactics
import Derived.Deep.RegionLaw
import Derived.BigRegion
/- The specified table (mode Frequent) in memory: the box, New, Untracked, Total, Get. Conditions: none beyond those typed. -/
namespace Go.Proofs.YtajkcjbkbihgjaaGreat
open Go.ChangeShapes Go.WideShapes Go.ChangeAt Go.RowKit
set_option linter.unusedVariables false
set_option linter.unusedSimpArgs false
set_option maxRecDepth 100000

/-- The specified table (mode Frequent): the box, the row of entries. -/
structure RefFB (col : Col) (k : Nat) (w : World) (g : Nat) (t : TSt) (A : Option Addr) (c : Nat) : Prop where
  box : BoxC col w g k #[.int .i64 2, .int .i64 t.m, .slice A t.l.length c, .int .u64 t.base, .int .u64 t.sum] 58
  row : OwnKc kEn col w (k + 1) (.slice A t.l.length c) t.l
  k1 : 1 ≤ k
def RefF (col : Col) (k : Nat) (w : World) (g : Nat) (t : TSt) : Prop := GoodF t ∧ ∃ A c, RefFB col k w g t A c
def DidRF (col : Col) (k : Nat) (w : World) (g : Nat) (t : TSt) (w' : World) : Prop := ∃ col', RefF col' k w' g t ∧ StepC (Rng k) col w col' w'
section
variable {P : Nat → Prop} {col col' : Col} {w w' : World} {k g : Nat} {t : TSt} {A : Option Addr} {c : Nat}
theorem RefFB.keep (h : RefFB col k w g t A c) (hs : StepC P col w col' w') (hp : ∀ c, Rng k c → ¬ P c) : RefFB col' k w' g t A c :=
  ⟨h.box.keep hs (hp _ ⟨Nat.le_refl _, by omega⟩), h.row.keep hs (hp _ ⟨by omega, by omega⟩), h.k1⟩
theorem RefFB.below (h : RefFB col k w g t A c) (ht : Tidy col w) (hb : Below w.heap.size w w') : RefFB col k w' g t A c := h.keep (P := fun _ => False) (StepC.below ht hb) (fun _ _ h => h)
theorem RefF.keep (h : RefF col k w g t) (hs : StepC P col w col' w') (hp : ∀ c, Rng k c → ¬ P c) : RefF col' k w' g t := by
  obtain ⟨G, A, c, H⟩ := h
  exact ⟨G, A, c, H.keep hs hp⟩
theorem RefF.below (h : RefF col k w g t) (ht : Tidy col w) (hb : Below w.heap.size w w') : RefF col k w' g t := h.keep (P := fun _ => False) (StepC.below ht hb) (fun _ _ h => h)
end
section
variable {P : Nat → Prop} {col col' : Col} {w w' : World} {k g : Nat} {t : TSt}
/-- A row in new memory takes the place of the row. -/
theorem RefFB.newRow {A A' : Option Addr} {c c' N : Nat} {l' : List En} (h : RefFB col k w g t A c) (ht : Tidy col w) (hB : Below w.heap.size w w') (hN : l'.length = N) (hO : OwnK kEn w' (.slice A' N c') l') (hW : New w (.slice A' N c')) :
    ∃ col', RefFB col' k (w'.setCell ⟨g, 2, none⟩ (.slice A' N c')) g { t with l := l' } A' c' ∧ StepC (Rng k) col w col' (w'.setCell ⟨g, 2, none⟩ (.slice A' N c')) := by
  subst hN
  have hk := h.k1
  have s1 : StepC (fun _ => False) col w (dye col (Value.slice A' l'.length c').ownBlock (k + 1)) w' := StepC.newRow ht hB fun b e => ⟨hW b e, hO.lt b e⟩
  have b1 := h.box.keep s1 (fun h => h)
  have s2 := StepC.set (P := fun d => d = k) s1.tidy (a := ⟨g, 2, none⟩) b1.col (.slice A' l'.length c')
  exact ⟨_, ⟨b1.put 2 _, (OwnKc.mk' (c := k + 1) kEn hO).keep s2 (by omega), hk⟩, (s1.mono fun _ h => h.elim).trans (s2.mono fun c e => ⟨by omega, by omega⟩)⟩
end
def NewRF (col : Col) (k : Nat) (m : Int) (w : World) (e : Ending) (w' : World) : Prop :=
  (svE m = 0 ∧ ∃ g, e = .returned (.tuple #[.pointer (some ⟨g, 0, none⟩), .int .i64 0]) ∧ DidRF col k w g (newT m.toNat) w') ∨ (svE m = 1 ∧ e = .returned (.tuple #[.pointer none, .int .i64 1]) ∧ Below w.heap.size w w')
section
variable {col : Col} {w : World} {k : Nat}
theorem new_rf (ht : Tidy col w) (hk : 1 ≤ k) {n : Nat} (hG : GoodF (newT n)) :
    DidRF col k w w.heap.size (newT n) (w.alloc (.cells #[.int .i64 2, .int .i64 n, .slice none 0 0, .int .u64 0, .int .u64 0] 58)) :=
  ⟨dye col (some w.heap.size) k, ⟨hG, _, _, ⟨heap_alloc_new w _, dye_of⟩, OwnKc.nil kEn _ _ _, hk⟩, StepC.newRow ht ((Below.refl _ _).alloc (Nat.le_refl _) _) fun b e => by injection e with e; subst e; exact ⟨Nat.le_refl _, by simp⟩⟩
set_option maxHeartbeats 1000000 in
theorem rfNew (ht : Tidy col w) (hk : 1 ≤ k) (m : Int) (hn : -9223372036854775808 ≤ m ∧ m ≤ 9223372036854775807) :
    Calls Tryz.prog 9 #[.int .i64 2, .int .i64 m] w (NewRF col k m w) := by
  obtain ⟨i1, i2⟩ := hn
  by_cases h1 : m < 1
  · have HE := Lib.hid (show svE m = 1 from if_pos (.inl h1))
    go_enter Tryz.func9, Tryz.ntmps9
    go_wp2
    go_ret2
    exact .inr ⟨HE.out, rfl, Below.refl _ _⟩
  by_cases h2 : 64 < m
  · have HE := Lib.hid (show svE m = 1 from if_pos (.inr h2))
    go_enter Tryz.func9, Tryz.ntmps9
    go_wp2
    go_ret2
    exact .inr ⟨HE.out, rfl, Below.refl _ _⟩
  obtain ⟨q, hq⟩ : ∃ q : Nat, m = q := ⟨m.toNat, by omega⟩
  subst hq
  have HE := Lib.hid (show svE q = 0 from if_neg (by omega))
  have HG := Lib.hid (newF_good (m := q) ⟨by omega, by omega⟩)
  have HM := Lib.hid (new_rf (n := q) ht hk HG.out)
  go_enter Tryz.func9, Tryz.ntmps9
  go_wp2
  go_ret2
  exact .inl ⟨HE.out, _, rfl, HM.out⟩
end
end Go.Proofs.YtajkcjbkbihgjaaGreat

/- The specified table in memory: Swap, what it refuses. Conditions: none beyond those typed. -/
namespace Go.Proofs.YtajkcjbkbihgjaaGreat
open Go.ChangeShapes Go.WideShapes Go.ChangeAt Go.RowKit
set_option linter.unusedVariables false
set_option linter.unusedSimpArgs false
set_option maxRecDepth 100000

section
variable {P : Nat → Prop} {col col' : Col} {w w' : World} {k g : Nat} {t : TSt}
end
end Go.Proofs.YtajkcjbkbihgjaaGreat

/- The specified table in memory: Swap, keys that are there. Conditions: none beyond those typed. -/
namespace Go.Proofs.YtajkcjbkbihgjaaGreat
open Go.ChangeShapes Go.WideShapes Go.ChangeAt Go.RowKit
set_option linter.unusedVariables false
set_option linter.unusedSimpArgs false
set_option maxRecDepth 100000

section
variable {P : Nat → Prop} {col col' : Col} {w w' : World} {k g : Nat} {t : TSt}
end
end Go.Proofs.YtajkcjbkbihgjaaGreat

/- The specified table in memory: Swap, keys that are there. Conditions: none beyond those typed. -/
namespace Go.Proofs.YtajkcjbkbihgjaaGreat
open Go.ChangeShapes Go.WideShapes Go.ChangeAt Go.RowKit
set_option linter.unusedVariables false
set_option linter.unusedSimpArgs false
set_option maxRecDepth 100000

section
variable {P : Nat → Prop} {col col' : Col} {w w' : World} {k g : Nat} {t : TSt}
end
end Go.Proofs.YtajkcjbkbihgjaaGreat

/- The specified table in memory: Swap (mode Frequent). Conditions: none beyond those typed. -/
namespace Go.Proofs.YtajkcjbkbihgjaaGreat
open Go.ChangeShapes Go.WideShapes Go.ChangeAt Go.RowKit
set_option linter.unusedVariables false
set_option linter.unusedSimpArgs false
set_option maxRecDepth 100000

section
variable {P : Nat → Prop} {col col' : Col} {w w' : World} {k g : Nat} {t : TSt}
end
end Go.Proofs.YtajkcjbkbihgjaaGreat

/- The specified table (mode Frequent): Swap, whatever is given. Conditions: none beyond those typed. -/
namespace Go.Proofs.YtajkcjbkbihgjaaGreat
open Go.ChangeShapes Go.WideShapes Go.ChangeAt Go.RowKit
set_option linter.unusedVariables false
set_option linter.unusedSimpArgs false

end Go.Proofs.YtajkcjbkbihgjaaGreat

/- The plain mathematics of tables from keys to values: keys in ascending order, each with its value. Conditions: none beyond those typed. -/
namespace Go.Proofs.YtajkcjbkbihgjaaGreat
set_option linter.unusedVariables false
set_option linter.unusedSimpArgs false

/-- Ascending by bytes. -/
def sless (a b : ByteArray) : Bool := Op.bytesLess a.toList b.toList
theorem sless_irrefl (a : ByteArray) : sless a a = false := bl_irrefl _
theorem sless_trans {a b c : ByteArray} (h1 : sless a b = true) (h2 : sless b c = true) : sless a c = true := bl_trans _ _ _ h1 h2
theorem toList_inj' {a b : ByteArray} (h : a.toList = b.toList) : a = b := by
  rw [Lib.toList_data, Lib.toList_data] at h
  exact ByteArray.ext (Array.toList_inj.1 h)
theorem sless_total (a b : ByteArray) : a = b ∨ sless a b = true ∨ sless b a = true := by
  rcases bl_total a.toList b.toList with h | h | h
  · exact .inl (toList_inj' h)
  · exact .inr (.inl h)
  · exact .inr (.inr h)
section
variable {α : Type}
/-- Keys in ascending order, none twice. -/
def Srt (l : List (ByteArray × α)) : Prop := l.Pairwise fun p q => sless p.1 q.1 = true
/-- The place of a key. -/
def placeM (l : List (ByteArray × α)) (s : ByteArray) : Nat := l.findIdx fun p => !sless p.1 s
def lookM (l : List (ByteArray × α)) (s : ByteArray) : Option α := (l.find? fun p => decide (p.1 = s)).map Prod.snd
variable {l : List (ByteArray × α)} {s t : ByteArray} {v u : α} {p q : ByteArray × α} {i j : Nat}
theorem place_le (l : List (ByteArray × α)) (s : ByteArray) : placeM l s ≤ l.length := List.findIdx_le_length
theorem place_before (h : i < placeM l s) (hp : l[i]? = some p) : sless p.1 s = true := by
  obtain ⟨hl, rfl⟩ := List.getElem?_eq_some_iff.1 hp
  have := List.not_of_lt_findIdx h
  simpa using this
theorem place_at (hp : l[placeM l s]? = some p) : sless p.1 s = false := by
  obtain ⟨hl, rfl⟩ := List.getElem?_eq_some_iff.1 hp
  have h1 := List.findIdx_getElem (p := fun p : ByteArray × α => !sless p.1 s) (w := hl)
  have h2 : (!sless (l[placeM l s]'hl).1 s) = true := h1
  revert h2
  cases sless (l[placeM l s]'hl).1 s <;> simp
theorem srt_at (h : Srt l) (hp : l[i]? = some p) (hq : l[j]? = some q) (hij : i < j) : sless p.1 q.1 = true := by
  obtain ⟨hi, rfl⟩ := List.getElem?_eq_some_iff.1 hp
  obtain ⟨hj, rfl⟩ := List.getElem?_eq_some_iff.1 hq
  exact List.pairwise_iff_getElem.1 h i j hi hj hij
/-- What stands behind the place is greater. -/
theorem place_behind (h : Srt l) (hi : placeM l s ≤ i) (hp : l[i]? = some p) (hne : p.1 ≠ s) : sless s p.1 = true := by
  have hlt : placeM l s < l.length := Nat.lt_of_le_of_lt hi (List.getElem?_eq_some_iff.1 hp).1
  obtain ⟨q, hq⟩ : ∃ q, l[placeM l s]? = some q := ⟨_, List.getElem?_eq_getElem hlt⟩
  have h0 := place_at hq
  rcases Nat.lt_or_ge (placeM l s) i with hi' | hi'
  · have h1 := srt_at h hq hp hi'
    rcases sless_total q.1 s with e | e | e
    · rw [e] at h1; exact h1
    · rw [h0] at e; cases e
    · exact sless_trans e h1
  · obtain rfl : placeM l s = i := by omega
    rw [hq] at hp; injection hp with hp; subst hp
    rcases sless_total q.1 s with e | e | e
    · exact absurd e hne
    · rw [h0] at e; cases e
    · exact e
theorem place_behind' (h : Srt l) (hi : placeM l s < i) (hp : l[i]? = some p) : sless s p.1 = true := by
  refine place_behind h (Nat.le_of_lt hi) hp fun e => ?_
  have hlt : placeM l s < l.length := Nat.lt_trans hi (List.getElem?_eq_some_iff.1 hp).1
  obtain ⟨q, hq⟩ : ∃ q, l[placeM l s]? = some q := ⟨_, List.getElem?_eq_getElem hlt⟩
  have h1 := srt_at h hq hp hi
  rw [e, place_at hq] at h1; cases h1
theorem srt_same (h : Srt l) (hp : l[i]? = some p) (hq : l[j]? = some q) (he : p.1 = q.1) : i = j := by
  rcases Nat.lt_trichotomy i j with h1 | h1 | h1
  · have := srt_at h hp hq h1; rw [he, sless_irrefl] at this; cases this
  · exact h1
  · have := srt_at h hq hp h1; rw [he, sless_irrefl] at this; cases this
theorem look_mem (h : Srt l) : lookM l s = some v ↔ (s, v) ∈ l := by
  unfold lookM
  constructor
  · intro e
    cases hf : l.find? fun p => decide (p.1 = s) with
    | none => rw [hf] at e; cases e
    | some p =>
      rw [hf] at e; injection e with e
      have h1 := List.find?_some hf
      have h2 := List.mem_of_find?_eq_some hf
      obtain ⟨a, b⟩ := p
      simp at h1 e; subst h1 e; exact h2
  · intro hm
    cases hf : l.find? fun p => decide (p.1 = s) with
    | none => have := List.find?_eq_none.1 hf _ hm; simp at this
    | some p =>
      have h1 : p.1 = s := by simpa using List.find?_some hf
      obtain ⟨i, hi⟩ := List.mem_iff_getElem?.1 (List.mem_of_find?_eq_some hf)
      obtain ⟨j, hj⟩ := List.mem_iff_getElem?.1 hm
      obtain rfl := srt_same h hi hj h1
      rw [hi] at hj; injection hj with hj; rw [hj]; rfl
theorem look_at (h : Srt l) (hp : l[i]? = some p) : lookM l p.1 = some p.2 := (look_mem h).2 (List.mem_of_getElem? hp)
/-- A key lies at its place or nowhere. -/
theorem look_place (h : Srt l) (s : ByteArray) : lookM l s = match l[placeM l s]? with | some p => if p.1 = s then some p.2 else none | none => none := by
  cases hp : l[placeM l s]? with
  | none =>
    simp only
    cases hl : lookM l s with
    | none => rfl
    | some v =>
      obtain ⟨i, hi⟩ := List.mem_iff_getElem?.1 ((look_mem h).1 hl)
      have h1 : i < placeM l s := by
        have := (List.getElem?_eq_some_iff.1 hi).1
        have := List.getElem?_eq_none_iff.1 hp
        omega
      have := place_before h1 hi
      rw [sless_irrefl] at this; cases this
  | some p =>
    simp only
    by_cases he : p.1 = s
    · rw [if_pos he, ← he]; rw [← he] at hp; exact look_at h hp
    · rw [if_neg he]
      cases hl : lookM l s with
      | none => rfl
      | some v =>
        obtain ⟨i, hi⟩ := List.mem_iff_getElem?.1 ((look_mem h).1 hl)
        rcases Nat.lt_trichotomy i (placeM l s) with h1 | h1 | h1
        · have := place_before h1 hi; rw [sless_irrefl] at this; cases this
        · subst h1; rw [hp] at hi; injection hi with hi; rw [hi] at he; exact absurd rfl he
        · have := place_behind' h h1 hi; rw [sless_irrefl] at this; cases this
theorem look_some (h : Srt l) (hl : lookM l s = some v) : l[placeM l s]? = some (s, v) := by
  rw [look_place h] at hl
  cases hp : l[placeM l s]? with
  | none => rw [hp] at hl; cases hl
  | some p =>
    rw [hp] at hl
    by_cases he : p.1 = s
    · simp only [he, if_true] at hl; injection hl with hl; obtain ⟨a, b⟩ := p; simp only at he hl; rw [he, hl]
    · simp only [he, if_false] at hl; cases hl
/-- One more key. -/
def addM (l : List (ByteArray × α)) (s : ByteArray) (v : α) : List (ByteArray × α) := l.take (placeM l s) ++ (s, v) :: l.drop (placeM l s)
def setM (l : List (ByteArray × α)) (s : ByteArray) (v : α) : List (ByteArray × α) := l.set (placeM l s) (s, v)
theorem mem_take_before (h : p ∈ l.take (placeM l s)) : sless p.1 s = true := by
  obtain ⟨i, hi⟩ := List.mem_iff_getElem?.1 h
  have h1 : i < placeM l s := by
    have := (List.getElem?_eq_some_iff.1 hi).1
    simp at this; omega
  rw [List.getElem?_take_of_lt h1] at hi
  exact place_before h1 hi
theorem add_srt (h : Srt l) (hn : lookM l s = none) : Srt (addM l s v) := by
  have hd : ∀ q ∈ l.drop (placeM l s), sless s q.1 = true := fun q hq => by
    obtain ⟨i, hi⟩ := List.mem_iff_getElem?.1 hq
    rw [List.getElem?_drop] at hi
    refine place_behind h (Nat.le_add_right _ _) hi fun e => ?_
    have := look_at h hi
    rw [e, hn] at this; cases this
  refine List.pairwise_append.2 ⟨h.sublist (List.take_sublist _ _), List.pairwise_cons.2 ⟨hd, h.sublist (List.drop_sublist _ _)⟩, fun p hp q hq => ?_⟩
  have h1 := mem_take_before hp
  rcases List.mem_cons.1 hq with rfl | hq
  · exact h1
  · exact sless_trans h1 (hd q hq)
theorem add_mem : p ∈ addM l s v ↔ p = (s, v) ∨ p ∈ l := by
  unfold addM
  rw [List.mem_append, List.mem_cons]
  have : p ∈ l ↔ p ∈ l.take (placeM l s) ∨ p ∈ l.drop (placeM l s) := by rw [← List.mem_append, List.take_append_drop]
  rw [this]
  constructor
  · rintro (h | h | h)
    · exact .inr (.inl h)
    · exact .inl h
    · exact .inr (.inr h)
  · rintro (h | h | h)
    · exact .inr (.inl h)
    · exact .inl h
    · exact .inr (.inr h)
theorem add_len : (addM l s v).length = l.length + 1 := by
  have := place_le l s
  unfold addM; simp; omega
theorem look_ext {l' : List (ByteArray × α)} {o : Option α} (h : Srt l') (he : ∀ u, (t, u) ∈ l' ↔ o = some u) : lookM l' t = o := by
  cases hl : lookM l' t with
  | none =>
    cases o with
    | none => rfl
    | some u => have := (look_mem h).2 ((he u).2 rfl); rw [hl] at this; cases this
  | some u => exact ((he u).1 ((look_mem h).1 hl)).symm
theorem look_add (h : Srt l) (hn : lookM l s = none) (t : ByteArray) : lookM (addM l s v) t = if t = s then some v else lookM l t := by
  refine look_ext (add_srt h hn) fun u => ?_
  rw [add_mem]
  by_cases e : t = s
  · subst e
    rw [if_pos rfl]
    constructor
    · rintro (h1 | h1)
      · injection h1 with _ h1; rw [h1]
      · have := (look_mem h).2 h1; rw [hn] at this; cases this
    · intro h1; injection h1 with h1; rw [h1]; exact .inl rfl
  · rw [if_neg e, look_mem h]
    constructor
    · rintro (h1 | h1)
      · injection h1 with h1; exact absurd h1 e
      · exact h1
    · exact .inr
theorem set_keys (h : Srt l) (hl : lookM l s = some u) : (setM l s v).map Prod.fst = l.map Prod.fst := by
  have hp := look_some h hl
  unfold setM
  rw [List.map_set]
  refine List.ext_getElem? fun i => ?_
  rw [List.getElem?_set]
  by_cases e : placeM l s = i
  · subst e; rw [if_pos rfl, List.getElem?_map, hp]; simp [(List.getElem?_eq_some_iff.1 hp).1]
  · rw [if_neg e]
theorem srt_keys {l' : List (ByteArray × α)} (h : Srt l) (he : l'.map Prod.fst = l.map Prod.fst) : Srt l' := by
  have h1 : (l.map Prod.fst).Pairwise fun a b => sless a b = true := List.pairwise_map.2 h
  rw [← he] at h1
  exact List.pairwise_map.1 h1
theorem set_srt (h : Srt l) (hl : lookM l s = some u) : Srt (setM l s v) := srt_keys h (set_keys h hl)
theorem set_len : (setM l s v).length = l.length := by simp [setM]
theorem look_set (h : Srt l) (hl : lookM l s = some u) (t : ByteArray) : lookM (setM l s v) t = if t = s then some v else lookM l t := by
  have hp := look_some h hl
  refine look_ext (set_srt h hl) fun x => ?_
  have key : ∀ i : Nat, (setM l s v)[i]? = if placeM l s = i then some (s, v) else l[i]? := fun i => by
    unfold setM
    rw [List.getElem?_set]
    by_cases e : placeM l s = i
    · subst e; simp [(List.getElem?_eq_some_iff.1 hp).1]
    · rw [if_neg e, if_neg e]
  rw [List.mem_iff_getElem?]
  by_cases e : t = s
  · subst e
    rw [if_pos rfl]
    constructor
    · rintro ⟨i, hi⟩
      rw [key] at hi
      by_cases ei : placeM l t = i
      · rw [if_pos ei] at hi; injection hi with hi; injection hi with _ hi; rw [hi]
      · rw [if_neg ei] at hi; exact absurd (srt_same h hp hi rfl) ei
    · intro h1; injection h1 with h1; subst h1; exact ⟨placeM l t, by rw [key, if_pos rfl]⟩
  · rw [if_neg e, look_mem h, List.mem_iff_getElem?]
    constructor
    · rintro ⟨i, hi⟩
      rw [key] at hi
      by_cases ei : placeM l s = i
      · rw [if_pos ei] at hi; injection hi with hi; injection hi with hi; exact absurd hi.symm e
      · rw [if_neg ei] at hi; exact ⟨i, hi⟩
    · rintro ⟨i, hi⟩
      refine ⟨i, ?_⟩
      rw [key]
      by_cases ei : placeM l s = i
      · subst ei; rw [hp] at hi; injection hi with hi; injection hi with hi; exact absurd hi.symm e
      · rw [if_neg ei]; exact hi
end
/-- A table: at most n keys. -/
structure MSt (α : Type) where
  n : Nat
  l : List (ByteArray × α)
section
variable {α : Type} {m : MSt α} {s t : ByteArray} {v u : α}
def MSt.look (m : MSt α) (s : ByteArray) : Option α := lookM m.l s
def MSt.put (m : MSt α) (s : ByteArray) (v : α) : Int × MSt α :=
  match m.look s with
  | some _ => (0, { m with l := setM m.l s v })
  | none => if m.l.length = m.n then (7, m) else (0, { m with l := addM m.l s v })
structure GoodM (m : MSt α) : Prop where
  n1 : 1 ≤ m.n
  n8 : m.n ≤ 8192
  len : m.l.length ≤ m.n
  srt : Srt m.l
def newM (α : Type) (n : Nat) : MSt α := ⟨n, []⟩
theorem newM_good {n : Nat} (h1 : 1 ≤ n) (h8 : n ≤ 8192) : GoodM (newM α n) := ⟨h1, h8, Nat.zero_le _, List.Pairwise.nil⟩
theorem GoodM.put (h : GoodM m) (s : ByteArray) (v : α) : GoodM (m.put s v).2 := by
  unfold MSt.put
  cases hl : m.look s with
  | some u => exact ⟨h.n1, h.n8, by simp only [set_len]; exact h.len, set_srt h.srt hl⟩
  | none =>
    simp only
    by_cases hn : m.l.length = m.n
    · rw [if_pos hn]; exact h
    · rw [if_neg hn]; exact ⟨h.n1, h.n8, by simp only [add_len]; have := h.len; omega, add_srt h.srt hl⟩
/-- The function that a table is. -/
theorem put_look (h : GoodM m) (s : ByteArray) (v : α) (h0 : (m.put s v).1 = 0) (t : ByteArray) : (m.put s v).2.look t = if t = s then some v else m.look t := by
  unfold MSt.put at h0 ⊢
  cases hl : m.look s with
  | some u => exact look_set h.srt hl t
  | none =>
    rw [hl] at h0
    simp only at h0 ⊢
    by_cases hn : m.l.length = m.n
    · rw [if_pos hn] at h0; cases h0
    · rw [if_neg hn]; exact look_add h.srt hl t
theorem put_fresh (h : m.look s = none) (hn : m.l.length ≠ m.n) (v : α) : (m.put s v).1 = 0 ∧ (m.put s v).2.l.length = m.l.length + 1 := by
  unfold MSt.put; rw [h]; exact ⟨by simp only [if_neg hn], by simp only [if_neg hn]; exact add_len⟩
theorem newM_look (n : Nat) (s : ByteArray) : (newM α n).look s = none := rfl
end
end Go.Proofs.YtajkcjbkbihgjaaGreat

/- Words laid together in one text. Conditions: none beyond those typed. -/
/- Arenas as plain data: classes, slots, what a call leaves, and what stays true of them. Conditions: none beyond those typed. -/
namespace Go.Proofs.YtajkcjbkbihgjaaGreat
set_option linter.unusedVariables false
set_option linter.unusedSimpArgs false

/-- A slot that was allocated: class, index, age, whether it is in use, its bytes. -/
structure Sl where
  c : Nat
  i : Nat
  a : Nat
  u : Bool
  b : List Int
/-- A handle: class, index, age. -/
abbrev Hd := Int × Int × Int
def Sl.h (x : Sl) : Hd := ((x.c : Int), (x.i : Int), (x.a : Int))
/-- An arena: its classes, its slots in the order in which they were allocated first, the free ones in the order in which they were freed, the next index of each class, the faults, the number of calls. -/
structure ASt where
  L : List (Int × Int)
  s : List Sl
  f : List Nat
  nx : List Nat
  fa : Nat
  t : Nat

/-- The first class that is large enough. -/
def fitI : List (Int × Int) → Int → Option Nat
  | [], _ => none
  | x :: r, z => if z ≤ x.1 then some 0 else (fitI r z).map (· + 1)
/-- Fit, P8.2. -/
def fitP (l : List (Int × Int)) (z : Int) : Option Nat := if 1 ≤ z then fitI l z else none
/-- The greatest place below n of the free list at which a slot of class c lies. -/
def lastAt (s : List Sl) (f : List Nat) (c : Nat) : Nat → Option Nat
  | 0 => none
  | n + 1 => if (f[n]?.bind fun j => s[j]?.map Sl.c) = some c then some n else lastAt s f c n
def Sl.again (x : Sl) : Sl := { x with a := x.a + 1, u := true, b := [] }
def ASt.tick (x : ASt) : ASt := { x with t := x.t + 1 }
/-- Alloc, P8.3: of a class. -/
def ASt.take (x : ASt) (c : Nat) : (Hd × Int) × ASt :=
  match lastAt x.s x.f c x.f.length with
  | some p =>
    let j := x.f.getD p 0
    let s := x.s.modify j Sl.again
    ((((s[j]?.map Sl.h).getD (0, 0, 0)), 0), { x with s := s, f := x.f.eraseIdx p, t := x.t + 1 })
  | none =>
    if ((x.nx.getD c 0 : Nat) : Int) = (x.L.getD c (0, 0)).2 then (((0, 0, 0), 7), x.tick)
    else ((((c : Int), ((x.nx.getD c 0 : Nat) : Int), 1), 0), { x with s := x.s ++ [⟨c, x.nx.getD c 0, 1, true, []⟩], nx := x.nx.set c (x.nx.getD c 0 + 1), t := x.t + 1 })
def ASt.alloc (x : ASt) (z : Int) : (Hd × Int) × ASt :=
  match fitP x.L z with
  | none => (((0, 0, 0), 1), x.tick)
  | some c => x.take c
/-- The slot of a live handle. -/
def ASt.find (x : ASt) (h : Hd) : Option Nat := x.s.findIdx? fun y => y.u && decide (y.h = h)
def ASt.fault (x : ASt) : ASt := { x with fa := x.fa + 1, t := x.t + 1 }
def ASt.free (x : ASt) (h : Hd) : Int × ASt :=
  match x.find h with
  | none => (9, x.fault)
  | some i => (0, { x with s := x.s.modify i fun y => { y with u := false }, f := x.f ++ [i], t := x.t + 1 })
section
variable {x : ASt}
end
end Go.Proofs.YtajkcjbkbihgjaaGreat

/- What stays true of an arena as plain data under every call. Conditions: none beyond those typed. -/
namespace Go.Proofs.YtajkcjbkbihgjaaGreat
set_option linter.unusedVariables false
set_option linter.unusedSimpArgs false

section
variable {x : ASt}
end
end Go.Proofs.YtajkcjbkbihgjaaGreat

/- Numbers, classes, handles and slots in memory; the specified arena in memory. Conditions: none beyond those typed. -/
namespace Go.Proofs.YtajkcjbkbihgjaaGreat
open Go.ChangeShapes Go.WideShapes Go.ChangeAt Go.RowKit
set_option linter.unusedVariables false
set_option linter.unusedSimpArgs false
set_option maxRecDepth 100000

section
variable {w : World} {A : Option Addr} {n c j : Nat}
end
end Go.Proofs.YtajkcjbkbihgjaaGreat

/- A row in new memory that comes back; a literal of three numbers; since the call began. Conditions: none beyond those typed. -/
namespace Go.Proofs.YtajkcjbkbihgjaaGreat
open Go.ChangeShapes Go.WideShapes Go.ChangeAt Go.RowKit
set_option linter.unusedVariables false
set_option linter.unusedSimpArgs false
set_option maxRecDepth 100000

/-- A row in new memory comes back. -/
def RowOut {α : Type} (K : Kind α) (w : World) (l : List α) (e : Ending) (w' : World) : Prop := ∃ A n c, l.length = n ∧ e = .returned (.slice A n c) ∧ RdG K w' A n c l ∧ (∀ b o sp, A = some ⟨b, o, sp⟩ → w.heap.size ≤ b) ∧ Below w.heap.size w w'
def J64 (z : Int) : Prop := -9223372036854775808 ≤ z ∧ z ≤ 9223372036854775807
theorem Since.belowL {w0 W W' : World} {col : Col} (h : Since w0 col W) (hb : Below W.heap.size W W') : Since w0 col W' := h.step (P := fun _ => False) (StepC.below h.tidy hb) (fun h => h)
end Go.Proofs.YtajkcjbkbihgjaaGreat

/- The specified table: Sorted. Conditions: none beyond those typed. -/
namespace Go.Proofs.YtajkcjbkbihgjaaGreat
open Go.ChangeShapes Go.WideShapes Go.ChangeAt Go.RowKit
set_option linter.unusedVariables false
set_option linter.unusedSimpArgs false
set_option maxRecDepth 100000

/-- An entry comes behind those with lesser keys. -/
def insSE (out : List En) (e : En) : List En := out.take (placeM out e.1) ++ e :: out.drop (placeM out e.1)
/-- Entries in ascending order of their keys. -/
def sortE (l : List En) : List En := l.foldl insSE []
theorem KE.mk' {W1 w : World} {g : Nat} {e : En} (c0 : W1.cell? ⟨g, 0, none⟩ = some (.string e.1)) (c1 : W1.cell? ⟨g, 1, none⟩ = some (.int .u64 e.2.1)) (c2 : W1.cell? ⟨g, 2, none⟩ = some (.int .u64 e.2.2)) (h : Below W1.heap.size W1 w) :
    w.cell? ⟨g, 0, none⟩ = some (.string e.1) ∧ w.cell? ⟨g, 1, none⟩ = some (.int .u64 e.2.1) ∧ w.cell? ⟨g, 2, none⟩ = some (.int .u64 e.2.2) ∧ Below W1.heap.size W1 w :=
  ⟨(h.cell (p := ⟨g, 0, none⟩) (World.block_lt_of_cell? _ _ c0)).trans c0, (h.cell (p := ⟨g, 1, none⟩) (World.block_lt_of_cell? _ _ c1)).trans c1, (h.cell (p := ⟨g, 2, none⟩) (World.block_lt_of_cell? _ _ c2)).trans c2, h⟩
end Go.Proofs.YtajkcjbkbihgjaaGreat

/- z & m for any number z: from 0 to m. Conditions: none beyond those typed. -/
namespace Go.Proofs.YtajkcjbkbihgjaaGreat
open Go.ChangeShapes Go.WideShapes Go.ChangeAt Go.RowKit
theorem mask_any (z : Int) (m : Nat) (hm : m < 4611686018427387904) : ∃ x : Nat, x ≤ m ∧ bits .and .i64 z (m : Int) = (x : Int) := by
  refine ⟨(BitVec.ofInt 64 z &&& BitVec.ofInt 64 (m : Int)).toNat, ?_, ?_⟩
  · rw [BitVec.toNat_and]
    refine Nat.le_trans Nat.and_le_right ?_
    rw [BitVec.ofInt_natCast, BitVec.toNat_ofNat]
    exact Nat.mod_le _ _
  · have h : (BitVec.ofInt 64 z &&& BitVec.ofInt 64 (m : Int)).toNat ≤ m := by
      rw [BitVec.toNat_and]
      refine Nat.le_trans Nat.and_le_right ?_
      rw [BitVec.ofInt_natCast, BitVec.toNat_ofNat]
      exact Nat.mod_le _ _
    show IntKind.i64.wrap ((BitVec.ofInt 64 z &&& BitVec.ofInt 64 (m : Int)).toNat : Int) = _
    exact IntWalk.i64_in _ (by omega)
end Go.Proofs.YtajkcjbkbihgjaaGreat

/- heavykeyslaw03.list: up to nine tags. Conditions: none beyond those typed. -/
namespace Go.Proofs.YtajkcjbkbihgjaaGreat
open Go.ChangeShapes Go.WideShapes Go.ChangeAt Go.RowKit
set_option linter.unusedVariables false
set_option maxRecDepth 100000
set_option linter.unusedSimpArgs false

end Go.Proofs.YtajkcjbkbihgjaaGreat

/- Decks that make tags, weights and events: Deck.Tags, Small, Weight, Event. Conditions: none beyond those typed. -/
namespace Go.Proofs.YtajkcjbkbihgjaaGreat
open Go.ChangeShapes Go.WideShapes Go.ChangeAt Go.RowKit
set_option linter.unusedVariables false
set_option linter.unusedSimpArgs false
set_option maxRecDepth 100000

section
variable {B W W' : World} {g n c : Nat} {A : Option Addr}
end

end Go.Proofs.YtajkcjbkbihgjaaGreat

/- Deck.Short: a short text of a deck's making. Conditions: none beyond those typed. -/
namespace Go.Proofs.YtajkcjbkbihgjaaGreat
open Go.ChangeShapes Go.WideShapes Go.ChangeAt Go.RowKit
set_option linter.unusedVariables false
set_option linter.unusedSimpArgs false
set_option maxRecDepth 100000

end Go.Proofs.YtajkcjbkbihgjaaGreat

/- == on entries; SameEntries on equal lists; the specified table: Entries; Deck.Entry. Conditions: none beyond those typed. -/
namespace Go.Proofs.YtajkcjbkbihgjaaGreat
open Go.ChangeShapes Go.WideShapes Go.ChangeAt Go.RowKit
set_option linter.unusedVariables false
set_option linter.unusedSimpArgs false
set_option maxRecDepth 100000

section
variable {col : Col} {w w' : World} {k g : Nat} {t : TSt}
end
end Go.Proofs.YtajkcjbkbihgjaaGreat

/- The specified table (mode Frequent): Entries. Conditions: none beyond those typed. -/
namespace Go.Proofs.YtajkcjbkbihgjaaGreat
open Go.ChangeShapes Go.WideShapes Go.ChangeAt Go.RowKit
set_option linter.unusedVariables false
set_option linter.unusedSimpArgs false
set_option maxRecDepth 100000

section
variable {col : Col} {w w' : World} {k g : Nat} {t : TSt}
end
end Go.Proofs.YtajkcjbkbihgjaaGreat

/- The specified table (mode Frequent): stores. Conditions: none beyond those typed. -/
namespace Go.Proofs.YtajkcjbkbihgjaaGreat
open Go.ChangeShapes Go.WideShapes Go.ChangeAt Go.RowKit
set_option linter.unusedVariables false
set_option linter.unusedSimpArgs false
set_option maxRecDepth 100000

section
variable {P : Nat → Prop} {col col' : Col} {w w' : World} {k g : Nat} {t : TSt}
theorem RefFB.grown {A A' : Option Addr} {c c' N : Nat} {e : En} (h : RefFB col k w g t A c) (ht : Tidy col w) (hN : (t.l ++ [e]).length = N) (hO : OwnK kEn w' (.slice A' N c') (t.l ++ [e])) (hg : w.grownBy w' (Value.slice A t.l.length c).ownBlock) (hv : (Value.slice A' N c').ownBlock = (Value.slice A t.l.length c).ownBlock ∨ (Value.slice A' N c').ownBlock = some w.heap.size) :
    ∃ col', RefFB col' k (w'.setCell ⟨g, 2, none⟩ (.slice A' N c')) g { t with l := t.l ++ [e] } A' c' ∧ StepC (Rng k) col w col' (w'.setCell ⟨g, 2, none⟩ (.slice A' N c')) := by
  subst hN
  have hk := h.k1
  have s1 := StepC.app (P := fun d => d = k + 1) ht hg h.row.col rfl hv hO.lt
  have b1 := h.box.keep s1 (by omega)
  have s2 := StepC.set (P := fun d => d = k) s1.tidy (a := ⟨g, 2, none⟩) b1.col (.slice A' (t.l ++ [e]).length c')
  exact ⟨_, ⟨b1.put 2 _, (OwnKc.mk' (c := k + 1) kEn hO).keep s2 (by omega), hk⟩, (s1.mono fun c e => ⟨by omega, by omega⟩).trans (s2.mono fun c e => ⟨by omega, by omega⟩)⟩
/-- Nothing but new memory between: the cell of the row, after an append that grew the row alone. -/
theorem RefFB.far {A : Option Addr} {c : Nat} {v : Value} {w' : World} (h : RefFB col k w g t A c) (ht : Tidy col w) (hg : w.grownBy w' (Value.slice A t.l.length c).ownBlock) : w'.cell? ⟨g, 2, none⟩ = some (.slice A t.l.length c) ∧ (w'.setCell ⟨g, 2, none⟩ v).cell? ⟨g, 2, none⟩ = some v := by
  have s1 := StepC.grownBy (P := fun d => d = k + 1) ht hg fun q hq => h.row.col q hq
  have b1 := h.box.keep s1 (by omega)
  exact ⟨b1.cell 2 rfl, (b1.put 2 v).cell 2 rfl⟩
end
end Go.Proofs.YtajkcjbkbihgjaaGreat

/- The specified table (mode Frequent): deduct. Conditions: none beyond those typed. -/
namespace Go.Proofs.YtajkcjbkbihgjaaGreat
open Go.ChangeShapes Go.WideShapes Go.ChangeAt Go.RowKit
set_option linter.unusedVariables false
set_option linter.unusedSimpArgs false
set_option maxRecDepth 100000

section
variable {P : Nat → Prop} {col col' : Col} {w w' : World} {k g : Nat} {t : TSt}
end
end Go.Proofs.YtajkcjbkbihgjaaGreat

/- The specified table in memory: Add (mode Frequent). Conditions: none beyond those typed. -/
namespace Go.Proofs.YtajkcjbkbihgjaaGreat
open Go.ChangeShapes Go.WideShapes Go.ChangeAt Go.RowKit
set_option linter.unusedVariables false
set_option linter.unusedSimpArgs false
set_option maxRecDepth 100000

section
variable {P : Nat → Prop} {col col' : Col} {w w' : World} {k g : Nat} {t : TSt}
end
end Go.Proofs.YtajkcjbkbihgjaaGreat

/- The specified table in memory: Take (mode Frequent). Conditions: none beyond those typed. -/
namespace Go.Proofs.YtajkcjbkbihgjaaGreat
open Go.ChangeShapes Go.WideShapes Go.ChangeAt Go.RowKit
set_option linter.unusedVariables false
set_option linter.unusedSimpArgs false
set_option maxRecDepth 100000

section
variable {P : Nat → Prop} {col col' : Col} {w w' : World} {k g : Nat} {t : TSt}
end
end Go.Proofs.YtajkcjbkbihgjaaGreat

/- The specified table in memory: Swap, what it refuses. Conditions: none beyond those typed. -/
namespace Go.Proofs.YtajkcjbkbihgjaaGreat
open Go.ChangeShapes Go.WideShapes Go.ChangeAt Go.RowKit
set_option linter.unusedVariables false
set_option linter.unusedSimpArgs false
set_option maxRecDepth 100000

section
variable {P : Nat → Prop} {col col' : Col} {w w' : World} {k g : Nat} {t : TSt}
end
end Go.Proofs.YtajkcjbkbihgjaaGreat

/- The specified table in memory: Swap, keys that are there. Conditions: none beyond those typed. -/
namespace Go.Proofs.YtajkcjbkbihgjaaGreat
open Go.ChangeShapes Go.WideShapes Go.ChangeAt Go.RowKit
set_option linter.unusedVariables false
set_option linter.unusedSimpArgs false
set_option maxRecDepth 100000

section
variable {P : Nat → Prop} {col col' : Col} {w w' : World} {k g : Nat} {t : TSt}
end
end Go.Proofs.YtajkcjbkbihgjaaGreat

/- The specified table in memory: Swap. Conditions: none beyond those typed. -/
namespace Go.Proofs.YtajkcjbkbihgjaaGreat
open Go.ChangeShapes Go.WideShapes Go.ChangeAt Go.RowKit
set_option linter.unusedVariables false
set_option linter.unusedSimpArgs false
set_option maxRecDepth 100000

section
variable {P : Nat → Prop} {col col' : Col} {w w' : World} {k g : Nat} {t : TSt}
end
end Go.Proofs.YtajkcjbkbihgjaaGreat

/- The specified table in memory: Swap, whatever is given. Conditions: none beyond those typed. -/
namespace Go.Proofs.YtajkcjbkbihgjaaGreat
open Go.ChangeShapes Go.WideShapes Go.ChangeAt Go.RowKit
set_option linter.unusedVariables false
set_option linter.unusedSimpArgs false

end Go.Proofs.YtajkcjbkbihgjaaGreat

/- The specified table in memory: Take, Swap. Conditions: none beyond those typed. -/
namespace Go.Proofs.YtajkcjbkbihgjaaGreat
open Go.ChangeShapes Go.WideShapes Go.ChangeAt Go.RowKit
set_option linter.unusedVariables false
set_option linter.unusedSimpArgs false
set_option maxRecDepth 100000

section
variable {P : Nat → Prop} {col col' : Col} {w w' : World} {k g : Nat} {t : TSt}
end
end Go.Proofs.YtajkcjbkbihgjaaGreat

/- The specified table in memory: Add. Conditions: none beyond those typed. -/
namespace Go.Proofs.YtajkcjbkbihgjaaGreat
open Go.ChangeShapes Go.WideShapes Go.ChangeAt Go.RowKit
set_option linter.unusedVariables false
set_option linter.unusedSimpArgs false
set_option maxRecDepth 100000

section
variable {P : Nat → Prop} {col col' : Col} {w w' : World} {k g : Nat} {t : TSt}
theorem RefTB.grown {A A' : Option Addr} {c c' N : Nat} {e : En} (h : RefTB col k w g t A c) (ht : Tidy col w) (hN : (t.l ++ [e]).length = N) (hO : OwnK kEn w' (.slice A' N c') (t.l ++ [e])) (hg : w.grownBy w' (Value.slice A t.l.length c).ownBlock) (hv : (Value.slice A' N c').ownBlock = (Value.slice A t.l.length c).ownBlock ∨ (Value.slice A' N c').ownBlock = some w.heap.size) :
    ∃ col', RefTB col' k (w'.setCell ⟨g, 2, none⟩ (.slice A' N c')) g { t with l := t.l ++ [e] } A' c' ∧ StepC (Rng k) col w col' (w'.setCell ⟨g, 2, none⟩ (.slice A' N c')) := by
  subst hN
  have hk := h.k1
  have s1 := StepC.app (P := fun d => d = k + 1) ht hg h.row.col rfl hv hO.lt
  have b1 := h.box.keep s1 (by omega)
  have s2 := StepC.set (P := fun d => d = k) s1.tidy (a := ⟨g, 2, none⟩) b1.col (.slice A' (t.l ++ [e]).length c')
  exact ⟨_, ⟨b1.put 2 _, (OwnKc.mk' (c := k + 1) kEn hO).keep s2 (by omega), hk⟩, (s1.mono fun c e => ⟨by omega, by omega⟩).trans (s2.mono fun c e => ⟨by omega, by omega⟩)⟩
/-- Nothing but new memory between: the cell of the row, after an append that grew the row alone. -/
theorem RefTB.far {A : Option Addr} {c : Nat} {v : Value} {w' : World} (h : RefTB col k w g t A c) (ht : Tidy col w) (hg : w.grownBy w' (Value.slice A t.l.length c).ownBlock) : w'.cell? ⟨g, 2, none⟩ = some (.slice A t.l.length c) ∧ (w'.setCell ⟨g, 2, none⟩ v).cell? ⟨g, 2, none⟩ = some v := by
  have s1 := StepC.grownBy (P := fun d => d = k + 1) ht hg fun q hq => h.row.col q hq
  have b1 := h.box.keep s1 (by omega)
  exact ⟨b1.cell 2 rfl, (b1.put 2 v).cell 2 rfl⟩
end
end Go.Proofs.YtajkcjbkbihgjaaGreat

/- The specified table in memory: Add, any weight. Conditions: none beyond those typed. -/
namespace Go.Proofs.YtajkcjbkbihgjaaGreat
open Go.ChangeShapes Go.WideShapes Go.ChangeAt Go.RowKit
set_option linter.unusedVariables false
set_option linter.unusedSimpArgs false
set_option maxRecDepth 100000

section
variable {P : Nat → Prop} {col col' : Col} {w w' : World} {k g : Nat} {t : TSt}
end
end Go.Proofs.YtajkcjbkbihgjaaGreat
