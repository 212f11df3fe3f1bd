/- tags.join, tags.Key and heavykeysref01.Key. Conditions: none beyond those typed. -/
import Derived.Test.YtnmhgbdmjgejfaaTbuild
import Derived.Test.YtnmhgbdmjgejfaaTrsort
import Derived.Lib.UnsafeStr
import Derived.Laws.IdiomStrings
namespace Go.Proofs.Ytnmhgbdmjgejfaa
open Go.ChangeShapes Go.WideShapes Go.ChangeAt Go.RowKit
set_option linter.unusedVariables false
set_option maxRecDepth 100000
set_option linter.unusedSimpArgs false

theorem cells_one (s : ByteArray) (h : s.size ≤ 255) : Lib.byteCells (one s) = [.int .u8 (s.size : Int)] ++ Lib.strCells s := by
  have : (UInt8.ofNat s.size).toNat = s.size := by rw [UInt8.toNat_ofNat']; omega
  simp only [one, Lib.byteCells, Lib.strCells, List.map_cons, this]
  rfl
theorem joinT_snoc {l : List Tg} {k : Nat} {t : Tg} (ht : l[k]? = some t) : joinT (l.take (k + 1)) = joinT (l.take k) ++ (one t.1 ++ one t.2) := by
  rw [List.take_add_one, ht]
  simp [joinT]
theorem cells_next {l : List Tg} {k : Nat} {p q : ByteArray} (ht : l[k]? = some (p, q)) (hp : p.size ≤ 255) (hq : q.size ≤ 255) :
    Lib.byteCells (joinT (l.take k)) ++ [.int .u8 (p.size : Int)] ++ Lib.strCells p ++ [.int .u8 (q.size : Int)] ++ Lib.strCells q = Lib.byteCells (joinT (l.take (k + 1))) := by
  rw [joinT_snoc ht, Lib.byteCells_append, Lib.byteCells_append, cells_one p hp, cells_one q hq]
  simp
theorem joinT_len : ∀ (l : List Tg), (∀ t ∈ l, t.1.size ≤ 255 ∧ t.2.size ≤ 255) → (joinT l).length ≤ l.length * 512
  | [], _ => by simp [joinT]
  | t :: r, h => by
    have ih := joinT_len r fun x hx => h x (by simp [hx])
    have ht := h t (by simp)
    have e : joinT (t :: r) = one t.1 ++ one t.2 ++ joinT r := by simp [joinT]
    have a1 : (one t.1).length = t.1.size + 1 := by rw [ba_size]; simp [one]
    have a2 : (one t.2).length = t.2.size + 1 := by rw [ba_size]; simp [one]
    rw [e, List.length_append, List.length_append, a1, a2, List.length_cons]
    omega
theorem isb_alloc {T e : TypeId} {B b : Nat} {bs : List Value} {w : World} (h : Lib.IsBuilderF T e B b bs w) (o : Obj) : Lib.IsBuilderF T e B b bs (w.alloc o) := by
  rcases h with h | h
  · exact .inl (h.alloc o)
  · exact .inr (h.alloc o)
theorem isb_drewN {T e : TypeId} {B b : Nat} {bs : List Value} {w : World} (h : Lib.IsBuilderF T e B b bs w) (n : Nat) : Lib.IsBuilderF T e B b bs (w.drewN n) := h
/-- The bytes of joined tags. -/
def keyS (l : List Tg) : ByteArray := ⟨(joinT l).toArray⟩
theorem keyS_size (l : List Tg) : (keyS l).size = (joinT l).length := by simp [keyS, ByteArray.size]
theorem key_bad {l : List Tg} (h : sortErr l ≠ 0) : keyErr l = sortErr l ∧ keyBy l = ⟨#[]⟩ := by
  have e : keyErr l = sortErr l := by unfold keyErr; rw [if_neg h]
  exact ⟨e, by unfold keyBy; rw [e, if_neg h]⟩
theorem key_long {l : List Tg} (h : sortErr l = 0) (hl : 255 < (keyS (srt l)).size) : keyErr l = 4 ∧ keyBy l = ⟨#[]⟩ := by
  rw [keyS_size] at hl
  have e : keyErr l = 4 := by unfold keyErr; rw [if_pos h, if_pos hl]
  exact ⟨e, by unfold keyBy; rw [e, if_neg (by decide)]⟩
theorem key_ok {l : List Tg} (h : sortErr l = 0) (hl : (keyS (srt l)).size ≤ 255) : keyErr l = 0 ∧ keyBy l = keyS (srt l) := by
  rw [keyS_size] at hl
  have e : keyErr l = 0 := by unfold keyErr; rw [if_pos h, if_neg (by omega)]
  exact ⟨e, by unfold keyBy; rw [if_pos e]; rfl⟩
theorem sorted_sizes {l : List Tg} (h : sortErr l = 0) : ∀ t ∈ srt l, t.1.size ≤ 255 ∧ t.2.size ≤ 255 := by
  intro t ht
  have := vErr_size ((sortErr_zero.1 h).2.1 t ((srt_perm l).mem_iff.1 ht))
  omega
/-- What Key gives back. -/
def KeyOut (l : List Tg) (w : World) (e : Ending) (w' : World) : Prop := e = .returned (.tuple #[.string (keyBy l), .int .i64 (keyErr l)]) ∧ Below w.heap.size w w'
theorem KeyOut.mk' {l : List Tg} {w w' : World} {s : ByteArray} {z : Int} (h : keyErr l = z ∧ keyBy l = s) (hb : Below w.heap.size w w') : KeyOut l w (.returned (.tuple #[.string s, .int .i64 z])) w' := by
  obtain ⟨rfl, rfl⟩ := h; exact ⟨rfl, hb⟩

/-- The string of one byte. -/
def chr (n : Nat) : ByteArray := ⟨#[UInt8.ofNat n]⟩
theorem chr_size (n : Nat) : (chr n).size ≤ 1 := Nat.le_refl _
theorem keyS_snoc {l : List Tg} {k : Nat} {p q : ByteArray} (ht : l[k]? = some (p, q)) : keyS (l.take k) ++ (((chr p.size ++ p) ++ chr q.size) ++ q) = keyS (l.take (k + 1)) := by
  apply ByteArray.ext
  simp only [ByteArray.data_append, keyS, joinT_snoc ht, chr, one]
  apply Array.ext'
  simp
theorem ba_append_size (a b : ByteArray) : (a ++ b).size = a.size + b.size := ByteArray.size_append

end Go.Proofs.Ytnmhgbdmjgejfaa
