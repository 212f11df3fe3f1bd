/- slices.Sort of a row of texts of the call's own; make of an empty row with room. Conditions: none beyond those typed. -/
import Derived.Test.YtdifkcjciblkpaaYplace
import Derived.Test.YtdifkcjciblkpaaShelf
import Derived.Sort.OwnSorted
import Derived.Sort.Walk0
namespace Go.Proofs.Ytdifkcjciblkpaa
open Go.ChangeShapes Go.WideShapes Go.ChangeAt Go.RowKit Go.Sort
set_option linter.unusedVariables false
set_option linter.unusedSimpArgs false
set_option maxRecDepth 100000

def bytesT (l : List ByteArray) : List (List UInt8) := l.map fun z => z.data.toList
def ofBytesT (l : List (List UInt8)) : List ByteArray := l.map fun b => ⟨b.toArray⟩
/-- In ascending order. -/
def ordT (l : List ByteArray) : List ByteArray := ofBytesT ((bytesT l).mergeSort fun x y => decide (x ≤ y))
theorem bytes_of (l : List (List UInt8)) : bytesT (ofBytesT l) = l := by
  induction l with
  | nil => rfl
  | cons a r ih => exact congrArg (List.cons a) ih
theorem of_bytes (l : List ByteArray) : ofBytesT (bytesT l) = l := by
  induction l with
  | nil => rfl
  | cons a r ih => exact congrArg (List.cons a) ih
theorem cells_enc (l : List ByteArray) : cellsK kT l = (bytesT l).map encStr := by
  induction l with
  | nil => rfl
  | cons a r ih => rw [cellsK_cons, ih]; simp [bytesT, kT, encStr]
theorem ord_len (l : List ByteArray) : (ordT l).length = l.length := by simp [ordT, ofBytesT, bytesT]
theorem ord_mem (l : List ByteArray) (s : ByteArray) : s ∈ ordT l ↔ s ∈ l := by
  unfold ordT ofBytesT bytesT
  simp only [List.mem_map, List.mem_mergeSort]
  constructor
  · rintro ⟨_, ⟨z, hz, rfl⟩, rfl⟩; simpa using hz
  · intro hs; exact ⟨_, ⟨s, hs, rfl⟩, by simp⟩
theorem le_bl (x y : List UInt8) : decide (x ≤ y) = !Op.bytesLess y x := by
  rw [bytesLess_eq, ← decide_not]
  apply decide_eq_decide.2
  exact Iff.rfl
theorem ord_srt {l : List ByteArray} (hn : l.Nodup) : (ordT l).Pairwise fun a b => sless a b = true := by
  have h1 : ((bytesT l).mergeSort fun x y => decide (x ≤ y)).Pairwise fun x y => decide (x ≤ y) = true := by
    apply List.pairwise_mergeSort
    · intro x y z h1 h2
      rw [le_bl] at h1 h2 ⊢
      cases hzx : Op.bytesLess z x with
      | false => rfl
      | true =>
        rcases bl_total x y with e | e | e
        · subst e; rw [hzx] at h2; cases h2
        · rw [bl_trans _ _ _ hzx e] at h2; cases h2
        · rw [e] at h1; cases h1
    · intro x y
      rw [le_bl, le_bl]
      cases hxy : Op.bytesLess y x with
      | false => rfl
      | true => rw [bl_asymm hxy]; rfl
  have h2 : ((bytesT l).mergeSort fun x y => decide (x ≤ y)).Nodup := (List.mergeSort_perm _ _).nodup_iff.2 (by
    unfold bytesT
    refine List.Pairwise.map _ ?_ hn
    intro a b hab e
    exact hab (ByteArray.ext (Array.toList_inj.1 e)))
  unfold ordT ofBytesT
  refine List.Pairwise.map _ ?_ (h1.and h2)
  intro a b hab
  have h3 := hab.1
  rw [le_bl] at h3
  unfold sless
  rw [Lib.toList_data, Lib.toList_data]
  rcases bl_total a b with e | e | e
  · exact absurd e hab.2
  · simpa using e
  · rw [e] at h3; cases h3
theorem ordT_any {w : World} {g c n : Nat} {l : List ByteArray} (h : OwnK kT w (.slice (some ⟨g, 0, none⟩) n c) l) (hn : n ≤ 1000000) :
    Calls Try.prog 37 #[.slice (some ⟨g, 0, none⟩) n c] w fun e w' => e = .returned (.tuple #[]) ∧ OwnK kT w' (.slice (some ⟨g, 0, none⟩) n c) (ordT l) ∧ w.grownBy w' (some g) := by
  obtain rfl := h.len
  have hb0 : w.ownsRow 0 kT.ty kT.k (.slice (some ⟨g, 0, none⟩) l.length c) l.length (cellsK kT l) := h
  rcases hb0.2 with ⟨hnil, _⟩ | ⟨g', cap, cur, hv, hbase, hb, h1, h2, h3, h4⟩
  · cases hnil
  injection hv with e1 e2 e3
  injection e1 with e1
  injection e1 with e1
  subst e1 e3
  have hl : (bytesT l).length = l.length := by simp [bytesT]
  have h4' : cur.toList.take (bytesT l).length = (bytesT l).map encStr := by
    rw [cells_enc, show kT.k = 1 from rfl, Nat.mul_one] at h4
    rw [hl]; exact h4
  have hH := holds_of_block hb h4'
  have hcall := Try.slices_Sort_string g 0 c (bytesT l) w hH (Array.getElem?_eq_some_iff.1 hb).1 (by rw [hl]; omega)
  rw [hl] at hcall
  refine hcall.mono ?_
  rintro e w' ⟨rfl, q, os, rfl⟩
  have hts : ((bytesT l).mergeSort fun x y => decide (x ≤ y)).length = (bytesT l).length := by simp
  have hrow := ownsRow_sorted (w := w) (base := 0) (n := q) (os := os) hts hbase hb (by rw [hl]; exact h1) h2 (by simpa [kT] using h3)
  refine ⟨rfl, ?_, grownBy_sorted _⟩
  show World.ownsRow _ 0 kT.ty kT.k _ (ordT l).length (cellsK kT (ordT l))
  rw [cells_enc, ord_len]
  unfold ordT
  rw [bytes_of]
  rw [hl] at hrow
  exact hrow
/-- make of an empty row with room. -/
theorem make0_any {α : Type} (K : Kind α) {n : Nat} (hn : n ≤ 1000000) :
    ∃ CS : Array Value, (∀ W : World, (Instr.makeSlice K.sl (.int .i64 0) (.int .i64 (n : Int))).run Try.prog W = .ok (.slice (some ⟨W.heap.size, 0, none⟩) 0 n) (W.alloc (.cells CS K.ty))) ∧ ∀ W : World, OwnK K (W.alloc (.cells CS K.ty)) (.slice (some ⟨W.heap.size, 0, none⟩) 0 n) [] := by
  obtain ⟨i0, hi0, hz0, hz1, hz2⟩ := info_parts K.info
  have hsm : K.by_ * n ≤ 100000 * 1000000 := Nat.mul_le_mul K.small hn
  refine ⟨madeCells K.zero.cells (n * K.k), fun W => ?_, fun W => ?_⟩
  · have hb : (i0.bytes : Int) * (n : Int) ≤ 281474976710656 := by
      have h : ((i0.bytes * n : Nat) : Int) ≤ 281474976710656 := by rw [hz2]; omega
      rwa [Int.natCast_mul] at h
    have := run_make (P := Try.prog) W K.sl K.ty i0 K.zero K.under hi0 hz0 .i64 .i64 0 n (by omega) (by omega) hb (by omega)
    simpa only [Int.toNat_natCast, Int.toNat_zero, hz1] using this
  · exact World.ownsRow_made W _ n (Nat.zero_le _) (by simp only [maxLen]; omega) (size_madeCells _ _)
end Go.Proofs.Ytdifkcjciblkpaa
