/- Words laid together in one text. Conditions: none beyond those typed. -/
import Derived.Test.YtajkcjbkbihgjaaGreatRows
import Derived.WalkKit
import Derived.ProofKit
import Derived.OpenShut
import Derived.IntWalk
import Derived.Lib.Hide
import Derived.Below
import Derived.Deep.Draws
import Derived.Deep.QuietTactic
import Derived.BigQuiet
import Derived.Lib.Bytealg
import Derived.Test.YtajkcjbkbihgjaaGreatShelf
import Derived.Laws.DeepStrings4
import Derived.Laws.Strings3
import Derived.Laws.OwnMore
import Derived.Deep.AppendLies
import Derived.Maps.AppendAt
import Derived.RegionTactic
import Derived.OwnWalk
import Derived.Deep.RegionHeld3
import Derived.Deep.WholeRow
import Derived.Lib.BufferMore
import Derived.Lib.FrozenHead2
import Derived.Lib.OthersKept
import Derived.Lib.Strings
import Derived.Lib.Slices
import Derived.Lib.Walk
import Derived.Lib.Builder
import Derived.Lib.AppendStr
import Derived.Laws.Externs
import Derived.Lib.UnsafeStr
import Derived.Laws.IdiomStrings
import Derived.Laws.StructEq
import Derived.SizedLaws
import Derived.Lib.VarintBits
import Derived.Laws.ResultCell
import Derived.ChangeMaps5
import Derived.Deep.SlicePairs
import Derived.Deep.Strs
/- Words that all layers share: results of calls, what a statement's walk leaves. Conditions: none beyond those typed. -/
namespace Go.Proofs.YtajkcjbkbihgjaaGreat
open Go.ChangeShapes Go.WideShapes Go.ChangeAt Go.RowKit
set_option linter.unusedVariables false
set_option maxRecDepth 100000
set_option linter.unusedSimpArgs false

theorem ret_i64 {a b : Int} (h : a = b) : Ending.returned (.int .i64 a) = .returned (.int .i64 b) := by rw [h]
theorem below_drewN {B : Nat} {w w' : World} (h : Below B w w') (n : Nat) : Below B w (w'.drewN n) := ⟨h.os, h.tape, h.output, h.size, h.block⟩
theorem below_then {w W W' : World} (h : Below w.heap.size w W) (hb : Below W.heap.size W W') : Below w.heap.size w W' := h.trans (hb.mono h.size)
/-- true comes back, and what was there stands. -/
def Yes (w : World) (e : Ending) (w' : World) : Prop := e = .returned (.bool true) ∧ Below w.heap.size w w'
end Go.Proofs.YtajkcjbkbihgjaaGreat

/- Words laid together in one text. Conditions: none beyond those typed. -/
/- The plain mathematics of canonical keys: names in the order of their bytes, sorting by insertion, keys and how they are cut. Conditions: none beyond those typed. -/
namespace Go.Proofs.YtajkcjbkbihgjaaGreat
set_option linter.unusedVariables false
set_option maxRecDepth 100000
set_option linter.unusedSimpArgs false

/-- A tag: its name and its value. -/
abbrev Tg := ByteArray × ByteArray
def nm (t : Tg) : List UInt8 := t.1.data.toList
def lt (a b : Tg) : Bool := Op.bytesLess (nm a) (nm b)

theorem bl_irrefl : ∀ a : List UInt8, Op.bytesLess a a = false
  | [] => rfl
  | a :: x => by simp [Op.bytesLess, bl_irrefl x, UInt8.lt_irrefl]
theorem bl_trans : ∀ a b c : List UInt8, Op.bytesLess a b = true → Op.bytesLess b c = true → Op.bytesLess a c = true
  | _, [], _, h, _ => by simp [Op.bytesLess] at h
  | _, _ :: _, [], _, h => by simp [Op.bytesLess] at h
  | [], _ :: _, _ :: _, _, _ => rfl
  | a :: x, b :: y, c :: z, h1, h2 => by
    simp only [Op.bytesLess, Bool.or_eq_true, Bool.and_eq_true, decide_eq_true_eq, beq_iff_eq] at h1 h2 ⊢
    rcases h1 with h1 | ⟨rfl, h1⟩
    · rcases h2 with h2 | ⟨rfl, h2⟩
      · exact .inl (UInt8.lt_trans h1 h2)
      · exact .inl h1
    · rcases h2 with h2 | ⟨rfl, h2⟩
      · exact .inl h2
      · exact .inr ⟨rfl, bl_trans x y z h1 h2⟩
theorem bl_total : ∀ a b : List UInt8, a = b ∨ Op.bytesLess a b = true ∨ Op.bytesLess b a = true
  | [], [] => .inl rfl
  | [], _ :: _ => .inr (.inl rfl)
  | _ :: _, [] => .inr (.inr rfl)
  | a :: x, b :: y => by
    simp only [Op.bytesLess, Bool.or_eq_true, Bool.and_eq_true, decide_eq_true_eq, beq_iff_eq]
    by_cases hab : a = b
    · subst hab
      rcases bl_total x y with rfl | h | h
      · exact .inl rfl
      · exact .inr (.inl (.inr ⟨rfl, h⟩))
      · exact .inr (.inr (.inr ⟨rfl, h⟩))
    · have : a < b ∨ b < a := by
        rw [UInt8.lt_iff_toNat_lt, UInt8.lt_iff_toNat_lt]
        have : a.toNat ≠ b.toNat := fun h => hab (UInt8.toNat_inj.1 h)
        omega
      rcases this with h | h
      · exact .inr (.inl (.inl h))
      · exact .inr (.inr (.inl h))
/-! ### sorting by insertion -/

def ins (t : Tg) : List Tg → List Tg
  | [] => [t]
  | x :: r => if lt t x = true then t :: x :: r else x :: ins t r
def srt (l : List Tg) : List Tg := l.foldl (fun s t => ins t s) []
/-! ### insertion from the left, with a look for the same name -/

/-! ### the errors -/

def one (s : ByteArray) : List UInt8 := UInt8.ofNat s.size :: s.data.toList
/-! ### what the errors leave -/

/-! ### cutting what was joined -/

/-! ### lists whose names are made of the bytes of names -/

end Go.Proofs.YtajkcjbkbihgjaaGreat

/- Package tags and its twin: bytes of names, valid tags, and the string after a length. Conditions: none beyond those typed. -/
namespace Go.Proofs.YtajkcjbkbihgjaaGreat
open Go.ChangeShapes Go.WideShapes Go.ChangeAt Go.RowKit
set_option linter.unusedVariables false
set_option maxRecDepth 100000
set_option linter.unusedSimpArgs false

/-! ### names -/

end Go.Proofs.YtajkcjbkbihgjaaGreat

/- Package tags and its twin: the string that a key begins with, after the byte with its length. Conditions: none beyond those typed. -/
namespace Go.Proofs.YtajkcjbkbihgjaaGreat
open Go.ChangeShapes Go.WideShapes Go.ChangeAt Go.RowKit
set_option linter.unusedVariables false
set_option maxRecDepth 100000
set_option linter.unusedSimpArgs false

end Go.Proofs.YtajkcjbkbihgjaaGreat

/- Words for memory: a slice that reads as a list of tags, a row of tags of the call's own, and append onto an owned one. Conditions: none beyond those typed. -/
namespace Go.Proofs.YtajkcjbkbihgjaaGreat
open Go.ChangeShapes Go.WideShapes Go.ChangeAt Go.RowKit
set_option linter.unusedVariables false
set_option maxRecDepth 100000
set_option linter.unusedSimpArgs false

section
variable {w w' : World} {A : Option Addr} {n c : Nat} {l : List Tg}
end


end Go.Proofs.YtajkcjbkbihgjaaGreat

/- slices.SortFunc over tags by their names, for few tags. Conditions: none beyond those typed. -/
namespace Go.Proofs.YtajkcjbkbihgjaaGreat
open Go.ChangeShapes Go.WideShapes Go.ChangeAt Go.RowKit
set_option linter.unusedVariables false
set_option maxRecDepth 100000
set_option linter.unusedSimpArgs false

section
variable {w w' : World} {g c : Nat} {l : List Tg}
end

end Go.Proofs.YtajkcjbkbihgjaaGreat

/- Rows of tags that a call owns: append onto them, slices.Clone, and tags.Sort. Conditions: none beyond those typed. -/
namespace Go.Proofs.YtajkcjbkbihgjaaGreat
open Go.ChangeShapes Go.WideShapes Go.ChangeAt Go.RowKit
set_option linter.unusedVariables false
set_option maxRecDepth 100000
set_option linter.unusedSimpArgs false

section
variable {w w' : World} {base : Nat} {v : Value} {l : List Tg}
end

section
variable {w : World}
end

end Go.Proofs.YtajkcjbkbihgjaaGreat

/- tags.Sort: the sorted tags, or the first error. Conditions: none beyond those typed. -/
namespace Go.Proofs.YtajkcjbkbihgjaaGreat
open Go.ChangeShapes Go.WideShapes Go.ChangeAt Go.RowKit
set_option linter.unusedVariables false
set_option maxRecDepth 100000
set_option linter.unusedSimpArgs false

end Go.Proofs.YtajkcjbkbihgjaaGreat

/- strings.Builder: a byte and a string written to it; and the key that tags.join builds. Conditions: none beyond those typed. -/
namespace Go.Proofs.YtajkcjbkbihgjaaGreat
open Go.ChangeShapes Go.WideShapes Go.ChangeAt Go.RowKit
set_option linter.unusedVariables false
set_option maxRecDepth 100000
set_option linter.unusedSimpArgs false

end Go.Proofs.YtajkcjbkbihgjaaGreat

/- heavykeysref01.Sort: the sorted tags, or the first error. Conditions: none beyond those typed. -/
namespace Go.Proofs.YtajkcjbkbihgjaaGreat
open Go.ChangeShapes Go.WideShapes Go.ChangeAt Go.RowKit
set_option linter.unusedVariables false
set_option maxRecDepth 100000
set_option linter.unusedSimpArgs false

end Go.Proofs.YtajkcjbkbihgjaaGreat

/- tags.join, tags.Key and heavykeysref01.Key. Conditions: none beyond those typed. -/
namespace Go.Proofs.YtajkcjbkbihgjaaGreat
open Go.ChangeShapes Go.WideShapes Go.ChangeAt Go.RowKit
set_option linter.unusedVariables false
set_option maxRecDepth 100000
set_option linter.unusedSimpArgs false

end Go.Proofs.YtajkcjbkbihgjaaGreat

/- heavykeysref01.SameTags. Conditions: none beyond those typed. -/
namespace Go.Proofs.YtajkcjbkbihgjaaGreat
open Go.ChangeShapes Go.WideShapes Go.ChangeAt Go.RowKit
set_option linter.unusedVariables false
set_option maxRecDepth 100000
set_option linter.unusedSimpArgs false


end Go.Proofs.YtajkcjbkbihgjaaGreat

/- Words on tags that statements share: literal lists, boxes, heavykeysref01.SameTags on equal lists. Conditions: none beyond those typed. -/
namespace Go.Proofs.YtajkcjbkbihgjaaGreat
open Go.ChangeShapes Go.WideShapes Go.ChangeAt Go.RowKit
set_option linter.unusedVariables false
set_option maxRecDepth 100000
set_option linter.unusedSimpArgs false

end Go.Proofs.YtajkcjbkbihgjaaGreat

/- Decks of numbers: New, Next, Within. Conditions: none beyond those typed. -/
namespace Go.Proofs.YtajkcjbkbihgjaaGreat
open Go.ChangeShapes Go.WideShapes Go.ChangeAt Go.RowKit
set_option linter.unusedVariables false
set_option maxRecDepth 100000
set_option linter.unusedSimpArgs false

end Go.Proofs.YtajkcjbkbihgjaaGreat

/- Words laid together in one text. Conditions: none beyond those typed. -/
/- Words for slices of bytes: a slice that reads as a list of numbers, a slice that the call itself owns, and append onto an owned one. Conditions: none beyond those typed. -/
namespace Go.Proofs.YtajkcjbkbihgjaaGreat
open Go.ChangeShapes Go.WideShapes Go.ChangeAt Go.RowKit
set_option linter.unusedVariables false
set_option maxRecDepth 100000

/-- The slice value '.slice A n c' reads as the bytes l. -/
def Rd (w : World) (A : Option Addr) (n c : Nat) (l : List Int) : Prop :=
  l.length = n ∧ n ≤ c ∧ c ≤ maxLen ∧ (∀ z ∈ l, 0 ≤ z ∧ z ≤ 255) ∧
    ∀ j z, l[j]? = some z → ∃ b o, A = some ⟨b, o, none⟩ ∧ w.cell? ⟨b, o + j, none⟩ = some (.int .u8 z)

/-- v is a row of bytes of the call's own (blocks from base on), which holds l. -/
def Own (w : World) (base : Nat) (v : Value) (l : List Int) : Prop :=
  w.ownsRow base 5 1 v l.length (l.map (Value.int .u8)) ∧ (∀ z ∈ l, 0 ≤ z ∧ z ≤ 255)

section
variable {w w' : World} {A : Option Addr} {n c : Nat} {l : List Int}

theorem Rd.len (h : Rd w A n c l) : l.length = n := h.1
theorem Rd.cap (h : Rd w A n c l) : n ≤ c := h.2.1
theorem Rd.max (h : Rd w A n c l) : c ≤ 9223372036854775807 := h.2.2.1
theorem Rd.bytes (h : Rd w A n c l) : ∀ z ∈ l, 0 ≤ z ∧ z ≤ 255 := h.2.2.2.1
theorem Rd.at_ (h : Rd w A n c l) {k : Nat} (hk : k < n) :
    ∃ b o z, A = some ⟨b, o, none⟩ ∧ l[k]? = some z ∧ 0 ≤ z ∧ z ≤ 255 ∧ b < w.heap.size ∧ w.cell? ⟨b, o + k, none⟩ = some (.int .u8 z) := by
  have hl : k < l.length := by rw [h.1]; exact hk
  have hg : l[k]? = some l[k] := List.getElem?_eq_getElem hl
  obtain ⟨b, o, hA, hc⟩ := h.2.2.2.2 k _ hg
  have hb := h.bytes _ (List.getElem_mem hl)
  exact ⟨b, o, l[k], hA, hg, hb.1, hb.2, World.block_lt_of_cell? w ⟨b, o + k, none⟩ hc, hc⟩
theorem Rd.keep (h : Rd w A n c l) (hk : ∀ a v, w.cell? a = some v → w'.cell? a = some v) : Rd w' A n c l :=
  ⟨h.1, h.2.1, h.2.2.1, h.2.2.2.1, fun j z hz => by
    obtain ⟨b, o, hA, hc⟩ := h.2.2.2.2 j z hz
    exact ⟨b, o, hA, hk _ _ hc⟩⟩
theorem Rd.below (h : Rd w A n c l) (hb : Below w.heap.size w w') : Rd w' A n c l :=
  h.keep fun a v hc => (hb.cell (World.block_lt_of_cell? w a hc)).trans hc
theorem Rd.drew (h : Rd w A n c l) : Rd w.drew A n c l := h
theorem Rd.drewN (h : Rd w A n c l) (k : Nat) : Rd (w.drewN k) A n c l := h
theorem Rd.take (h : Rd w A n c l) {k : Nat} (hk : k ≤ n) : Rd w A k c (l.take k) := by
  refine ⟨by rw [List.length_take, h.1]; omega, Nat.le_trans hk h.2.1, h.2.2.1, fun z hz => h.bytes z (List.mem_of_mem_take hz), fun j z hz => ?_⟩
  rw [List.getElem?_take] at hz
  split at hz
  · exact h.2.2.2.2 j z hz
  · cases hz
theorem Rd.nil (w : World) (A : Option Addr) (c : Nat) (hc : c ≤ maxLen) : Rd w A 0 c [] :=
  ⟨rfl, Nat.zero_le _, hc, fun z hz => absurd hz (by simp), fun j z hz => by simp at hz⟩
theorem Rd.one (w : World) (t : TypeId) (z : Int) (hz : 0 ≤ z ∧ z ≤ 255) : Rd (w.alloc (.cells #[.int .u8 z] t)) (some ⟨w.heap.size, 0, none⟩) 1 1 [z] :=
  ⟨rfl, Nat.le_refl _, by simp [maxLen], fun y hy => by simp at hy; subst hy; exact hz, fun j y hy => by
    match j, hy with
    | 0, hy =>
      simp at hy; subst hy
      refine ⟨_, _, rfl, ?_⟩
      rw [World.cell?_alloc_at _ _ _ _ rfl]; rfl
    | j + 1, hy => simp at hy⟩
theorem Rd.alloc (h : Rd w A n c l) (o : Obj) : Rd (w.alloc o) A n c l := h.below ((Below.refl _ _).alloc (Nat.le_refl _) o)

variable {base : Nat} {v : Value}

/-- What is owned reads. -/
theorem Own.form (h : Own w base v l) : ∃ A n c, v = .slice A n c ∧ Rd w A n c l := by
  obtain ⟨hown, hb⟩ := h
  rcases hown.2 with ⟨rfl, hn⟩ | ⟨g, cap, cur, rfl, hbg, hg, hnc, hcm, hcs, htake⟩
  · have hl : l = [] := List.eq_nil_of_length_eq_zero hn
    subst hl
    exact ⟨_, _, _, rfl, Rd.nil _ _ _ (by simp [maxLen])⟩
  · refine ⟨_, _, _, rfl, rfl, hnc, hcm, hb, fun j z hz => ⟨g, 0, rfl, ?_⟩⟩
    have hc := hown.cells (g := g) rfl j (.int .u8 z) (by rw [List.getElem?_map, hz]; rfl)
    rw [Addr.add_lit] at hc
    exact hc
theorem Own.bytes (h : Own w base v l) : ∀ z ∈ l, 0 ≤ z ∧ z ≤ 255 := h.2
theorem Own.nil (w : World) (base : Nat) : Own w base (.slice none 0 0) [] := ⟨World.ownsRow_nil w base _ 1, fun z hz => absurd hz (by simp)⟩
theorem Own.empty (w : World) : Own (w.alloc (.cells #[] 5)) w.heap.size (.slice (some ⟨w.heap.size, 0, none⟩) 0 0) [] :=
  ⟨World.ownsRow_made w #[] 0 (Nat.le_refl _) (by simp [maxLen]) rfl, fun z hz => absurd hz (by simp)⟩
theorem Own.alloc (h : Own w base v l) (o : Obj) : Own (w.alloc o) base v l := ⟨h.1.alloc o, h.2⟩
theorem Own.drew (h : Own w base v l) : Own w.drew base v l := h
theorem Own.drewN (h : Own w base v l) (k : Nat) : Own (w.drewN k) base v l := h
theorem Own.lt (h : Own w base v l) : ∀ k, v.ownBlock = some k → base ≤ k ∧ k < w.heap.size := h.1.lt
theorem Own.below (h : Own w base v l) (hb : Below w.heap.size w w') : Own w' base v l :=
  ⟨h.1.kept (row := none) ⟨hb.os, hb.tape, hb.output, hb.size, fun k hk _ => hb.block k hk⟩ (by cases h : v.ownBlock <;> simp), h.2⟩

theorem Below.app {B : Nat} {w0 : World} (h : Below B w0 w) (hown : Own w base v l) (hg : w.grownBy w' v.ownBlock) (hB : B ≤ w.heap.size) (hbase : B ≤ base) : Below B w0 w' :=
  h.grown hg hB fun k hk => by have := hown.lt k hk; omega
end

section
variable {w : World}

end
end Go.Proofs.YtajkcjbkbihgjaaGreat

/- Slices of bytes: heavykeysref01.Same on equal lists, literals, stores into owned rows, strings as bytes. Conditions: none beyond those typed. -/
namespace Go.Proofs.YtajkcjbkbihgjaaGreat
open Go.ChangeShapes Go.WideShapes Go.ChangeAt Go.RowKit
set_option linter.unusedVariables false
set_option maxRecDepth 100000
set_option linter.unusedSimpArgs false

theorem lit_cell (l : List Int) (t : TypeId) (w : World) (j : Nat) (z : Int) (h : l[j]? = some z) :
    (w.alloc (.cells (l.map (Value.int .u8)).toArray t)).cell? ⟨w.heap.size, 0 + j, none⟩ = some (.int .u8 z) := by
  rw [Nat.zero_add]
  exact (cell_of_row _ w.heap.size j (l.map (Value.int .u8)).toArray t (0, 0) (heap_alloc_new w _)).trans (by simp [h])
theorem Rd.lit (l : List Int) (w : World) (hb : ∀ z ∈ l, 0 ≤ z ∧ z ≤ 255) (hm : l.length ≤ maxLen) :
    Rd (w.alloc (.cells (l.map (Value.int .u8)).toArray 5)) (some ⟨w.heap.size, 0, none⟩) l.length l.length l :=
  ⟨rfl, Nat.le_refl _, hm, hb, fun j z hz => ⟨_, _, rfl, lit_cell l _ w j z hz⟩⟩
section
variable {w : World} {base : Nat} {A : Option Addr} {n c : Nat} {l : List Int}
theorem Own.len (h : Own w base (.slice A n c) l) : l.length = n := by
  rcases h.1.2 with ⟨h, hn⟩ | ⟨g, cap, cur, h, _⟩
  · injection h with _ h2 _; omega
  · injection h with _ h2 _; omega
theorem Own.reads (h : Own w base (.slice A n c) l) : Rd w A n c l := by
  obtain ⟨A', n', c', e, hr⟩ := h.form
  injection e with e1 e2 e3
  subst e1 e2 e3
  exact hr
end
section
variable {w : World} {base : Nat} {g n c : Nat} {l : List Int}
theorem Own.free (h : Own w base (.slice (some ⟨g, 0, none⟩) n c) l) (k : Nat) : w.frozen? ⟨g, k, none⟩ = false := by
  obtain rfl := h.len
  exact h.1.frozenAt k
theorem Own.store (h : Own w base (.slice (some ⟨g, 0, none⟩) n c) l) (k : Nat) {z : Int} (hz : 0 ≤ z ∧ z ≤ 255) : Own (w.setCell ⟨g, k, none⟩ (.int .u8 z)) base (.slice (some ⟨g, 0, none⟩) n c) (l.set k z) := by
  obtain rfl := h.len
  refine ⟨?_, fun y hy => ?_⟩
  · rw [List.length_set, List.map_set]
    exact (h.1.stored k _).1
  · rcases List.mem_or_eq_of_mem_set hy with h' | rfl
    · exact h.2 y h'
    · exact hz
end
end Go.Proofs.YtajkcjbkbihgjaaGreat

/- Plain facts on numbers as bytes: what a number is encoded to, what the bytes at the beginning of a list are decoded to. No program here. Conditions: none beyond those typed. -/
namespace Go.Proofs.YtajkcjbkbihgjaaGreat
set_option linter.unusedVariables false
set_option maxRecDepth 100000

def enc (n : Nat) : List Int := if n < 128 then [(n : Int)] else (((n % 128 : Nat) : Int) + 128) :: enc (n / 128)
termination_by n
decreasing_by omega

end Go.Proofs.YtajkcjbkbihgjaaGreat

/- Contracts of varint.Append, varint.Size and of their specified results: each returns what the plain function gives in memory of its own. Conditions: the slice reads as bytes, the number fits 64 bits, the whole is at most 2^47 bytes. -/
namespace Go.Proofs.YtajkcjbkbihgjaaGreat
open Go.ChangeShapes Go.WideShapes Go.ChangeAt Go.RowKit
set_option linter.unusedVariables false
set_option maxRecDepth 100000

end Go.Proofs.YtajkcjbkbihgjaaGreat

/- Plain facts on events as bytes: what an event is encoded to, what the bytes at the beginning of a list are decoded to. No program here. Conditions: none beyond those typed. -/
namespace Go.Proofs.YtajkcjbkbihgjaaGreat
set_option linter.unusedVariables false
set_option linter.unusedSimpArgs false
set_option maxRecDepth 100000

/-! ### reading -/
end Go.Proofs.YtajkcjbkbihgjaaGreat

/- Strings appended onto owned rows of bytes; event.appendText. Conditions: none beyond those typed. -/
namespace Go.Proofs.YtajkcjbkbihgjaaGreat
open Go.ChangeShapes Go.WideShapes Go.ChangeAt Go.RowKit
set_option linter.unusedVariables false
set_option linter.unusedSimpArgs false
set_option maxRecDepth 100000

section
variable {w w' : World} {base : Nat} {v : Value} {l : List Int}
theorem Own.weaken {base' : Nat} (h : Own w base v l) (hb : base' ≤ base) : Own w base' v l := by
  refine ⟨⟨h.1.1, ?_⟩, h.2⟩
  rcases h.1.2 with h0 | ⟨g, cap, cur, h1, h2, h3⟩
  · exact .inl h0
  · exact .inr ⟨g, cap, cur, h1, by omega, h3⟩
theorem Own.grown {row : Option Nat} (h : Own w base v l) (hg : w.grownBy w' row) (hr : v.ownBlock = none ∨ v.ownBlock ≠ row) : Own w' base v l := ⟨h.1.kept (row := row) hg hr, h.2⟩
end

end Go.Proofs.YtajkcjbkbihgjaaGreat

/- event.Encode and its twin: the bytes of an event, or the error. Conditions: none beyond those typed. -/
namespace Go.Proofs.YtajkcjbkbihgjaaGreat
open Go.ChangeShapes Go.WideShapes Go.ChangeAt Go.RowKit
set_option linter.unusedVariables false
set_option linter.unusedSimpArgs false
set_option maxRecDepth 100000

section
variable {w w' : World} {g : Nat} {A : Option Addr} {n c : Nat} {t x : Int}
end

end Go.Proofs.YtajkcjbkbihgjaaGreat

/- event.Item, event.Verdict and their twins; heavykeysref01.SameEvent on equal events. Conditions: none beyond those typed. -/
namespace Go.Proofs.YtajkcjbkbihgjaaGreat
open Go.ChangeShapes Go.WideShapes Go.ChangeAt Go.RowKit
set_option linter.unusedVariables false
set_option linter.unusedSimpArgs false
set_option maxRecDepth 100000

theorem results_cell_row2 {P : Program} {fn : Func} {p u : Tmp} {ty : TypeId} (h : fn.results = #[.cell p ty, .tmp u]) (tmps : Array Value) (w : World) (g : Nat) (t : TypeId) (cs : Array Value) (fr : Nat × Nat) (d : TypeDesc)
    (hp : tmps.getD p undef = .pointer (some ⟨g, 0, none⟩)) (hg : w.heap[g]? = some (.cells cs t fr))
    (hu : P.underlying ty = some d) (hd : (match d with | .struct _ | .array _ _ => true | _ => false) = true) (hi : (P.info? ty).map (·.size) = some cs.size) :
    (results fn tmps).run P w = .ok (.tuple #[.agg cs, tmps.getD u undef]) w := by
  have hp' : tmps[p]?.getD undef = .pointer (some ⟨g, 0, none⟩) := by simpa using hp
  rw [results_cell_tmp h]
  simp [hp', asAddr, run_loadVar_row w g t ty cs fr d hg hu hd hi, Result.andThen]
section
variable {w w' : World} {g : Nat} {s : ByteArray} {t x : Int}
end
end Go.Proofs.YtajkcjbkbihgjaaGreat

/- Append of bytes in a region that draws its order; rows of byte slices; == on items. Conditions: none beyond those typed. -/
namespace Go.Proofs.YtajkcjbkbihgjaaGreat
open Go.ChangeShapes Go.WideShapes Go.ChangeAt Go.RowKit
set_option linter.unusedVariables false
set_option linter.unusedSimpArgs false
set_option maxRecDepth 100000

theorem Rd.grown {w w' : World} {A : Option Addr} {n c : Nat} {l : List Int} {row : Option Nat} (h : Rd w A n c l) (hg : w.grownBy w' row) (hne : ∀ b o, A = some ⟨b, o, none⟩ → some b ≠ row) : Rd w' A n c l :=
  ⟨h.1, h.2.1, h.2.2.1, h.2.2.2.1, fun j t ht => by
    obtain ⟨b, o, hA, h1⟩ := h.2.2.2.2 j t ht
    exact ⟨b, o, hA, hg.cell h1 (hne b o hA)⟩⟩
theorem Own.empty' {w : World} {B h : Nat} (e : h = w.heap.size) (hB : B ≤ w.heap.size) : Own (w.alloc (.cells #[] 5)) B (.slice (some ⟨h, 0, none⟩) 0 0) [] := by
  subst e; exact (Own.empty w).weaken hB
end Go.Proofs.YtajkcjbkbihgjaaGreat

/- Arguments as the walks take them: slices of numbers, of tags, events. Conditions: none beyond those typed. -/
namespace Go.Proofs.YtajkcjbkbihgjaaGreat
open Go.ChangeShapes Go.WideShapes Go.ChangeAt Go.RowKit
set_option linter.unusedVariables false
set_option linter.unusedSimpArgs false
set_option maxRecDepth 100000

theorem own : ownKnob Tryz.prog.godebug = none := by kernel_rfl
end Go.Proofs.YtajkcjbkbihgjaaGreat

/- Contracts of the functions of package sat and of the specified results of layer 1: each returns what the plain functions below give, and leaves the world alone. Conditions: the numbers fit 64 bits. -/
namespace Go.Proofs.YtajkcjbkbihgjaaGreat
open Go.ChangeShapes Go.WideShapes Go.ChangeAt Go.RowKit
set_option linter.unusedVariables false

def fitsB (t w : Int) : Bool := decide (t + w ≤ 9223372036854775808)
/- The product: 'a > Most / b' says the same as 'a * b > Most' where b is positive. -/
end Go.Proofs.YtajkcjbkbihgjaaGreat

/- The plain mathematics of tables (Space-Saving): entries in the order in which they got their counts. Conditions: none beyond those typed. -/
namespace Go.Proofs.YtajkcjbkbihgjaaGreat
set_option linter.unusedVariables false
set_option linter.unusedSimpArgs false

/-- A size that memory bears. -/
def Sz (s : ByteArray) : Prop := s.size ≤ 281474976710656
def W64 (z : Int) : Prop := 0 ≤ z ∧ z ≤ 18446744073709551615
/-- An entry: key, own, slack. -/
abbrev En := ByteArray × Int × Int
def ctE (e : En) : Int := e.2.1 + e.2.2
/-- Room for m keys; the entries; Base, Total. -/
structure TSt where
  m : Nat
  l : List En
  base : Int
  sum : Int
def placeE (l : List En) (k : ByteArray) : Option Nat := l.findIdx? fun e => decide (e.1 = k)
def withoutE (l : List En) (i : Nat) : List En := l.take i ++ l.drop (i + 1)
def ctAt (l : List En) (i : Nat) : Int := ((l[i]?).map ctE).getD 0
/-- The first of those with the least count among the first i. -/
def leastTo (l : List En) : Nat → Nat
  | 0 => 0
  | i + 1 => if ctAt l i < ctAt l (leastTo l i) then i else leastTo l i
def leastE (l : List En) : Nat := leastTo l l.length
def sumE : List En → Int
  | [] => 0
  | e :: l => ctE e + sumE l
def TSt.addS (t : TSt) (k : ByteArray) (w : Int) : Int × TSt :=
  if k.size = 0 then (3, t) else if w = 0 then (1, t) else if fitsB t.sum w = false then (12, t) else
  match placeE t.l k with
  | some i => (0, { t with sum := t.sum + w, l := withoutE t.l i ++ [(k, ((t.l[i]?).map fun e => e.2.1).getD 0 + w, ((t.l[i]?).map fun e => e.2.2).getD 0)] })
  | none => if t.l.length = t.m then (0, { t with sum := t.sum + w, base := ctAt t.l (leastE t.l), l := withoutE t.l (leastE t.l) ++ [(k, w, ctAt t.l (leastE t.l))] })
    else (0, { t with sum := t.sum + w, l := t.l ++ [(k, w, t.base)] })
def zeroE : En := (⟨#[]⟩, 0, 0)
def TSt.get (t : TSt) (k : ByteArray) : En × Bool := match placeE t.l k with | none => (zeroE, false) | some i => ((t.l[i]?).getD zeroE, true)
def TSt.take (t : TSt) (k : ByteArray) : TSt := match placeE t.l k with | none => t | some i => { t with l := withoutE t.l i }
def swapE (base : Int) (e : En) : En := (e.1, e.2.1, if e.2.1 < base ∧ e.2.2 < base - e.2.1 then base - e.2.1 else e.2.2)
def TSt.swapS (t : TSt) (k : ByteArray) (e : En) : (En × Int) × TSt := match placeE t.l k with
  | none => ((zeroE, 8), t)
  | some i => if e.1.size = 0 then ((zeroE, 3), t) else if (placeE t.l e.1).isSome = true then ((zeroE, 10), t) else
    if ¬ (e.2.1 ≤ ctAt t.l i ∧ e.2.2 ≤ ctAt t.l i - e.2.1) then ((zeroE, 1), t) else (((t.l[i]?).getD zeroE, 0), { t with l := withoutE t.l i ++ [swapE t.base e] })
def newT (m : Nat) : TSt := ⟨m, [], 0, 0⟩
structure GoodT (t : TSt) : Prop where
  m1 : 1 ≤ t.m ∧ t.m ≤ 64
  len : t.l.length ≤ t.m
  nd : (t.l.map Prod.fst).Nodup
  pos : ∀ e ∈ t.l, 0 ≤ e.2.1 ∧ 0 ≤ e.2.2 ∧ t.base ≤ ctE e ∧ 0 < e.1.size
  base0 : 0 ≤ t.base
  most : ((t.m - t.l.length : Nat) : Int) * t.base + sumE t.l ≤ t.sum
  top : t.sum ≤ 9223372036854775808
section
variable {l : List En} {k : ByteArray} {i j : Nat} {e : En} {t : TSt} {w : Int}
theorem placeE_some (h : placeE l k = some i) : ∃ e, l[i]? = some e ∧ e.1 = k ∧ i < l.length := by
  unfold placeE at h
  obtain ⟨hi, h1, _⟩ := List.findIdx?_eq_some_iff_getElem.1 h
  exact ⟨_, List.getElem?_eq_getElem hi, by simpa using h1, hi⟩
theorem placeE_none (h : placeE l k = none) : ∀ e ∈ l, e.1 ≠ k := fun e he => by
  unfold placeE at h
  have := List.findIdx?_eq_none_iff.1 h e he
  simpa using this
theorem sumE_app (l l' : List En) : sumE (l ++ l') = sumE l + sumE l' := by
  induction l with
  | nil => simp [sumE]
  | cons x l ih => show ctE x + sumE (l ++ l') = ctE x + sumE l + sumE l'; rw [ih]; omega
theorem without_at (h : l[i]? = some e) : (withoutE l i).length + 1 = l.length ∧ sumE (withoutE l i) + ctE e = sumE l ∧ (∀ x ∈ withoutE l i, x ∈ l) ∧ ((l.map Prod.fst).Nodup → ((withoutE l i).map Prod.fst).Nodup ∧ ∀ x ∈ withoutE l i, x.1 ≠ e.1) ∧ ∀ x ∈ l, x ∈ withoutE l i ∨ x = e := by
  obtain ⟨hi, he⟩ := List.getElem?_eq_some_iff.1 h
  have hs : l = l.take i ++ e :: l.drop (i + 1) := by
    have := List.take_append_drop i l
    rw [List.drop_eq_getElem_cons hi, he] at this
    exact this.symm
  have hm : ∀ x, x ∈ l ↔ x ∈ l.take i ∨ x = e ∨ x ∈ l.drop (i + 1) := fun x => by
    conv => lhs; rw [hs]
    rw [List.mem_append, List.mem_cons]
  refine ⟨?_, ?_, fun x hx => ?_, fun hn => ?_, fun x hx => ?_⟩
  · unfold withoutE; rw [List.length_append, List.length_take, List.length_drop]; omega
  · have h2 : sumE l = sumE (l.take i) + (ctE e + sumE (l.drop (i + 1))) := by
      conv => lhs; rw [hs]
      rw [sumE_app]; rfl
    unfold withoutE
    rw [sumE_app]; omega
  · unfold withoutE at hx
    rcases List.mem_append.1 hx with h1 | h1
    · exact (hm x).2 (.inl h1)
    · exact (hm x).2 (.inr (.inr h1))
  · rw [hs, List.map_append, List.map_cons] at hn
    have h1 := (List.perm_middle (a := e.1) (l₁ := (l.take i).map Prod.fst) (l₂ := (l.drop (i + 1)).map Prod.fst)).nodup_iff.1 hn
    obtain ⟨h2, h3⟩ := List.nodup_cons.1 h1
    rw [← List.map_append] at h2 h3
    exact ⟨h3, fun x hx hc => h2 (by rw [← hc]; exact List.mem_map.2 ⟨x, hx, rfl⟩)⟩
  · rcases (hm x).1 hx with h1 | h1 | h1
    · exact .inl (List.mem_append.2 (.inl h1))
    · exact .inr h1
    · exact .inl (List.mem_append.2 (.inr h1))
theorem ctAt_at (h : l[i]? = some e) : ctAt l i = ctE e := by unfold ctAt; rw [h]; rfl
theorem leastTo_spec : ∀ i, 0 < i → i ≤ l.length → leastTo l i < i ∧ (∀ j, j < i → ctAt l (leastTo l i) ≤ ctAt l j) ∧ ∀ j, j < leastTo l i → ctAt l (leastTo l i) < ctAt l j
  | 0, h, _ => absurd h (Nat.lt_irrefl 0)
  | 1, _, _ => by
    have h0 : leastTo l 1 = 0 := by simp [leastTo]
    rw [h0]
    exact ⟨by omega, fun j hj => by rw [show j = 0 by omega]; exact Int.le_refl _, fun j hj => absurd hj (Nat.not_lt_zero _)⟩
  | i + 2, _, hl => by
    obtain ⟨h1, h2, h3⟩ := leastTo_spec (i + 1) (by omega) (by omega)
    show (if ctAt l (i + 1) < ctAt l (leastTo l (i + 1)) then i + 1 else leastTo l (i + 1)) < i + 2 ∧ _
    have e0 : leastTo l (i + 2) = if ctAt l (i + 1) < ctAt l (leastTo l (i + 1)) then i + 1 else leastTo l (i + 1) := rfl
    rw [e0]
    by_cases hc : ctAt l (i + 1) < ctAt l (leastTo l (i + 1))
    · rw [if_pos hc]
      exact ⟨by omega, fun j hj => by
        rcases Nat.lt_or_ge j (i + 1) with h | h
        · have := h2 j h; omega
        · rw [show j = i + 1 by omega]; exact Int.le_refl _, fun j hj => by have := h2 j hj; omega⟩
    · rw [if_neg hc]
      exact ⟨by omega, fun j hj => by
        rcases Nat.lt_or_ge j (i + 1) with h | h
        · exact h2 j h
        · rw [show j = i + 1 by omega]; omega, h3⟩
theorem least_spec (h : 0 < l.length) : ∃ e, l[leastE l]? = some e ∧ (∀ x ∈ l, ctE e ≤ ctE x) ∧ leastE l < l.length := by
  obtain ⟨h1, h2, _⟩ := leastTo_spec l.length h (Nat.le_refl _)
  refine ⟨_, List.getElem?_eq_getElem h1, fun x hx => ?_, h1⟩
  obtain ⟨j, hj⟩ := List.mem_iff_getElem?.1 hx
  have hjl := (List.getElem?_eq_some_iff.1 hj).1
  have := h2 j hjl
  rw [ctAt_at hj, ctAt_at (List.getElem?_eq_getElem (show leastTo l l.length < l.length from h1))] at this
  exact this
theorem GoodT.ct0 (G : GoodT t) : ∀ e ∈ t.l, 0 ≤ ctE e := fun e he => by obtain ⟨h1, h2, _, _⟩ := G.pos e he; unfold ctE; omega
theorem newT_good {m : Nat} (h : 1 ≤ m ∧ m ≤ 64) : GoodT (newT m) := ⟨h, Nat.zero_le _, List.nodup_nil, fun e he => by simp [newT] at he, Int.le_refl _, by simp [newT, sumE], by simp [newT]⟩
end
end Go.Proofs.YtajkcjbkbihgjaaGreat

/- What lifts of stage 13 want: an entry that came in. Conditions: none beyond those typed. -/
namespace Go.Proofs.YtajkcjbkbihgjaaGreat
open Go.ChangeShapes Go.WideShapes Go.ChangeAt Go.RowKit
set_option linter.unusedVariables false
set_option linter.unusedSimpArgs false
set_option maxRecDepth 100000

end Go.Proofs.YtajkcjbkbihgjaaGreat

/- Tables (Space-Saving): what stays true under Add, Take and Swap; what is known of the weights if weights are only added. Conditions: none beyond those typed. -/
namespace Go.Proofs.YtajkcjbkbihgjaaGreat
set_option linter.unusedVariables false
set_option linter.unusedSimpArgs false

section
variable {l : List En} {k : ByteArray} {i j : Nat} {e : En} {t : TSt} {w : Int}
theorem fits_le {s w : Int} (h : fitsB s w = true) : s + w ≤ 9223372036854775808 := of_decide_eq_true h
/-- An entry is replaced by one with a count that is not less than Base. -/
theorem nd_snoc (hn : (l.map Prod.fst).Nodup) (hk : ∀ x ∈ l, x.1 ≠ e.1) : ((l ++ [e]).map Prod.fst).Nodup := by
  rw [List.map_append]
  refine List.nodup_append.2 ⟨hn, by simp, fun a ha b hb hab => ?_⟩
  obtain ⟨x, hx, rfl⟩ := List.mem_map.1 ha
  simp at hb
  exact hk x hx (by rw [hab, hb])
/-- What Add does, by cases. -/
theorem addS_form (h : k.size = 0) : t.addS k w = (3, t) := if_pos h
theorem addS_zero (h : k.size ≠ 0) (hw : w = 0) : t.addS k w = (1, t) := by unfold TSt.addS; rw [if_neg h, if_pos hw]
theorem addS_over (h : k.size ≠ 0) (hw : w ≠ 0) (hf : fitsB t.sum w = false) : t.addS k w = (12, t) := by unfold TSt.addS; rw [if_neg h, if_neg hw, if_pos hf]
theorem addS_own (h : k.size ≠ 0) (hw : w ≠ 0) (hf : fitsB t.sum w = true) (hp : placeE t.l k = some i) (hi : t.l[i]? = some e) (he : e.1 = k) : t.addS k w = (0, { t with sum := t.sum + w, l := withoutE t.l i ++ [(e.1, e.2.1 + w, e.2.2)] }) := by
  unfold TSt.addS
  rw [if_neg h, if_neg hw, if_neg (by rw [hf]; exact Bool.noConfusion), hp]
  show (0, ({ t with sum := t.sum + w, l := withoutE t.l i ++ [(k, ((t.l[i]?).map fun e => e.2.1).getD 0 + w, ((t.l[i]?).map fun e => e.2.2).getD 0)] } : TSt)) = _
  rw [hi, he]; rfl
theorem addS_room (h : k.size ≠ 0) (hw : w ≠ 0) (hf : fitsB t.sum w = true) (hp : placeE t.l k = none) (hl : t.l.length ≠ t.m) : t.addS k w = (0, { t with sum := t.sum + w, l := t.l ++ [(k, w, t.base)] }) := by
  unfold TSt.addS
  rw [if_neg h, if_neg hw, if_neg (by rw [hf]; exact Bool.noConfusion), hp]
  exact if_neg hl
theorem addS_full (h : k.size ≠ 0) (hw : w ≠ 0) (hf : fitsB t.sum w = true) (hp : placeE t.l k = none) (hl : t.l.length = t.m) (hi : t.l[leastE t.l]? = some e) : t.addS k w = (0, { t with sum := t.sum + w, base := ctE e, l := withoutE t.l (leastE t.l) ++ [(k, w, ctE e)] }) := by
  unfold TSt.addS
  rw [if_neg h, if_neg hw, if_neg (by rw [hf]; exact Bool.noConfusion), hp]
  show (if t.l.length = t.m then _ else _) = _
  rw [if_pos hl, ctAt_at hi]
theorem GoodT.addS (G : GoodT t) (k : ByteArray) (hw : 0 ≤ w) : GoodT (t.addS k w).2 := by
  by_cases h : k.size = 0
  · rw [addS_form h]; exact G
  by_cases h0 : w = 0
  · rw [addS_zero h h0]; exact G
  cases hf : fitsB t.sum w with
  | false => rw [addS_over h h0 hf]; exact G
  | true =>
    have hsum := fits_le hf
    have hmost := G.most
    cases hp : placeE t.l k with
    | some i =>
      obtain ⟨e, hi, he, hil⟩ := placeE_some hp
      rw [addS_own h h0 hf hp hi he]
      obtain ⟨a1, a2, a3, a4, a5⟩ := without_at hi
      obtain ⟨a6, a7⟩ := a4 G.nd
      obtain ⟨p1, p2, p3, p4⟩ := G.pos e (List.mem_of_getElem? hi)
      have hlen : (withoutE t.l i ++ [(e.1, e.2.1 + w, e.2.2)]).length = t.l.length := by simp; omega
      refine ⟨G.m1, by rw [hlen]; exact G.len, nd_snoc a6 a7, fun x hx => ?_, G.base0, ?_, hsum⟩
      · rcases List.mem_append.1 hx with h1 | h1
        · exact G.pos x (a3 x h1)
        · rw [List.mem_singleton.1 h1]
          unfold ctE at p3 ⊢
          exact ⟨by show 0 ≤ e.2.1 + w; omega, p2, by show t.base ≤ e.2.1 + w + e.2.2; omega, p4⟩
      · show ((t.m - (withoutE t.l i ++ [(e.1, e.2.1 + w, e.2.2)]).length : Nat) : Int) * t.base + sumE (withoutE t.l i ++ [(e.1, e.2.1 + w, e.2.2)]) ≤ t.sum + w
        rw [hlen, sumE_app]
        show _ + (sumE (withoutE t.l i) + ((e.2.1 + w + e.2.2) + 0)) ≤ _
        unfold ctE at a2
        omega
    | none =>
      have hno := placeE_none hp
      have hks : 0 < k.size := by omega
      by_cases hl : t.l.length = t.m
      · have hm := G.m1
        obtain ⟨e, hi, hmin, hil⟩ := least_spec (l := t.l) (by omega)
        rw [addS_full h h0 hf hp hl hi]
        obtain ⟨a1, a2, a3, a4, a5⟩ := without_at hi
        obtain ⟨a6, a7⟩ := a4 G.nd
        obtain ⟨p1, p2, p3, p4⟩ := G.pos e (List.mem_of_getElem? hi)
        have hlen : (withoutE t.l (leastE t.l) ++ [(k, w, ctE e)]).length = t.m := by simp; omega
        have hc0 := G.ct0 e (List.mem_of_getElem? hi)
        refine ⟨G.m1, by rw [hlen]; exact Nat.le_refl _, nd_snoc a6 fun x hx => hno x (a3 x hx), fun x hx => ?_, hc0, ?_, hsum⟩
        · rcases List.mem_append.1 hx with h1 | h1
          · obtain ⟨q1, q2, _, q4⟩ := G.pos x (a3 x h1)
            exact ⟨q1, q2, hmin x (a3 x h1), q4⟩
          · rw [List.mem_singleton.1 h1]
            exact ⟨hw, hc0, by show ctE e ≤ w + ctE e; omega, hks⟩
        · show ((t.m - (withoutE t.l (leastE t.l) ++ [(k, w, ctE e)]).length : Nat) : Int) * ctE e + sumE (withoutE t.l (leastE t.l) ++ [(k, w, ctE e)]) ≤ t.sum + w
          rw [hlen, sumE_app, Nat.sub_self]
          show ((0 : Nat) : Int) * _ + (sumE (withoutE t.l (leastE t.l)) + ((w + ctE e) + 0)) ≤ _
          rw [hl, Nat.sub_self] at hmost
          simp at hmost ⊢
          omega
      · rw [addS_room h h0 hf hp hl]
        have hle := G.len
        refine ⟨G.m1, by show (t.l ++ [(k, w, t.base)]).length ≤ t.m; simp; omega, nd_snoc G.nd hno, fun x hx => ?_, G.base0, ?_, hsum⟩
        · rcases List.mem_append.1 hx with h1 | h1
          · exact G.pos x h1
          · rw [List.mem_singleton.1 h1]
            exact ⟨hw, G.base0, by show t.base ≤ w + t.base; omega, hks⟩
        · show ((t.m - (t.l ++ [(k, w, t.base)]).length : Nat) : Int) * t.base + sumE (t.l ++ [(k, w, t.base)]) ≤ t.sum + w
          rw [sumE_app, List.length_append, List.length_singleton]
          show _ + (sumE t.l + ((w + t.base) + 0)) ≤ _
          have e1 : ((t.m - t.l.length : Nat) : Int) * t.base = ((t.m - (t.l.length + 1) : Nat) : Int) * t.base + t.base := by
            rw [show t.m - t.l.length = (t.m - (t.l.length + 1)) + 1 by omega, Int.natCast_add, Int.add_mul]; omega
          omega
theorem GoodT.take (G : GoodT t) (k : ByteArray) : GoodT (t.take k) := by
  unfold TSt.take
  cases hp : placeE t.l k with
  | none => exact G
  | some i =>
    obtain ⟨e, hi, he, hil⟩ := placeE_some hp
    obtain ⟨a1, a2, a3, a4, a5⟩ := without_at hi
    have hmost := G.most
    have hle := G.len
    obtain ⟨p1, p2, p3, p4⟩ := G.pos e (List.mem_of_getElem? hi)
    refine ⟨G.m1, by show (withoutE t.l i).length ≤ t.m; omega, (a4 G.nd).1, fun x hx => G.pos x (a3 x hx), G.base0, ?_, G.top⟩
    show ((t.m - (withoutE t.l i).length : Nat) : Int) * t.base + sumE (withoutE t.l i) ≤ t.sum
    have e1 : ((t.m - (withoutE t.l i).length : Nat) : Int) * t.base = ((t.m - t.l.length : Nat) : Int) * t.base + t.base := by
      rw [show t.m - (withoutE t.l i).length = (t.m - t.l.length) + 1 by omega, Int.natCast_add, Int.add_mul]; omega
    omega
theorem swapE_ct {base : Int} (h1 : 0 ≤ e.2.1) (h2 : 0 ≤ e.2.2) : base ≤ ctE (swapE base e) ∧ 0 ≤ (swapE base e).2.2 ∧ e.2.2 ≤ (swapE base e).2.2 ∧ (ctE (swapE base e) = ctE e ∨ ctE (swapE base e) = base) := by
  unfold swapE ctE
  by_cases h : e.2.1 < base ∧ e.2.2 < base - e.2.1
  · rw [if_pos h]
    exact ⟨by show base ≤ e.2.1 + (base - e.2.1); omega, by show 0 ≤ base - e.2.1; omega, by show e.2.2 ≤ base - e.2.1; omega, .inr (by show e.2.1 + (base - e.2.1) = base; omega)⟩
  · rw [if_neg h]
    exact ⟨by show base ≤ e.2.1 + e.2.2; omega, h2, Int.le_refl _, .inl rfl⟩
theorem GoodT.swapS (G : GoodT t) (k : ByteArray) (h1 : 0 ≤ e.2.1) (h2 : 0 ≤ e.2.2) : GoodT (t.swapS k e).2 := by
  unfold TSt.swapS
  cases hp : placeE t.l k with
  | none => exact G
  | some i =>
    obtain ⟨x, hi, hx, hil⟩ := placeE_some hp
    show GoodT (if e.1.size = 0 then _ else _ : (En × Int) × TSt).2
    by_cases c1 : e.1.size = 0
    · rw [if_pos c1]; exact G
    rw [if_neg c1]
    by_cases c2 : (placeE t.l e.1).isSome = true
    · rw [if_pos c2]; exact G
    rw [if_neg c2]
    by_cases c3 : ¬ (e.2.1 ≤ ctAt t.l i ∧ e.2.2 ≤ ctAt t.l i - e.2.1)
    · rw [if_pos c3]; exact G
    rw [if_neg c3]
    have c3' := Decidable.not_not.1 c3
    rw [ctAt_at hi] at c3'
    obtain ⟨a1, a2, a3, a4, a5⟩ := without_at hi
    have hmost := G.most
    obtain ⟨p1, p2, p3, p4⟩ := G.pos x (List.mem_of_getElem? hi)
    obtain ⟨s1, s2, _, s3⟩ := swapE_ct (base := t.base) h1 h2
    have hno : placeE t.l e.1 = none := by
      cases h : placeE t.l e.1 with
      | none => rfl
      | some j => rw [h] at c2; exact absurd rfl c2
    have hlen : (withoutE t.l i ++ [swapE t.base e]).length = t.l.length := by simp; omega
    refine ⟨G.m1, by show (withoutE t.l i ++ [swapE t.base e]).length ≤ t.m; rw [hlen]; exact G.len, nd_snoc (a4 G.nd).1 fun y hy => placeE_none hno y (a3 y hy), fun y hy => ?_, G.base0, ?_, G.top⟩
    · rcases List.mem_append.1 hy with h | h
      · exact G.pos y (a3 y h)
      · rw [List.mem_singleton.1 h]
        exact ⟨h1, s2, s1, by show 0 < e.1.size; omega⟩
    · show ((t.m - (withoutE t.l i ++ [swapE t.base e]).length : Nat) : Int) * t.base + sumE (withoutE t.l i ++ [swapE t.base e]) ≤ t.sum
      rw [hlen, sumE_app]
      show _ + (sumE (withoutE t.l i) + (ctE (swapE t.base e) + 0)) ≤ _
      have : ctE (swapE t.base e) ≤ ctE x := by
        rcases s3 with h | h
        · rw [h]; unfold ctE at c3' ⊢; omega
        · rw [h]; exact p3
      omega
end
end Go.Proofs.YtajkcjbkbihgjaaGreat
