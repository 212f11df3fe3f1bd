/- heavykeysref01.Sort: the sorted tags, or the first error. Conditions: none beyond those typed. -/
import Derived.Test.YtnmhgbdmjgejfaaTags
namespace Go.Proofs.Ytnmhgbdmjgejfaa
open Go.ChangeShapes Go.WideShapes Go.ChangeAt Go.RowKit
set_option linter.unusedVariables false
set_option maxRecDepth 100000
set_option linter.unusedSimpArgs false

theorem RdT.take {w : World} {A : Option Addr} {n c : Nat} {l : List Tg} (h : RdT w A n c l) {k : Nat} (hk : k ≤ n) : RdT w A k c (l.take k) := by
  refine ⟨by rw [List.length_take, h.1]; omega, Nat.le_trans hk h.2.1, h.2.2.1, fun z hz => h.sizes z (List.mem_of_mem_take hz), fun j t ht => ?_⟩
  rw [List.getElem?_take] at ht
  split at ht
  · exact h.2.2.2.2 j t ht
  · cases ht
theorem RdT.grown {w w' : World} {A : Option Addr} {n c : Nat} {l : List Tg} {row : Option Nat} (h : RdT w A n c l) (hg : w.grownBy w' row) (hne : ∀ b o, A = some ⟨b, o, none⟩ → some b ≠ row) : RdT w' A n c l :=
  ⟨h.1, h.2.1, h.2.2.1, h.2.2.2.1, fun j t ht => by
    obtain ⟨b, o, hA, h1, h2⟩ := h.2.2.2.2 j t ht
    have := hne b o hA
    exact ⟨b, o, hA, hg.cell h1 this, hg.cell h2 this⟩⟩

/-- The box of a tag, and all that is older than it, stand as they stood. -/
def KS (W1 : World) (g : Nat) (p q : ByteArray) (w : World) : Prop := w.cell? ⟨g, 0, none⟩ = some (.string p) ∧ w.cell? ⟨g, 1, none⟩ = some (.string q) ∧ Below W1.heap.size W1 w
theorem KS.mk' {W1 w : World} {g : Nat} {p q : ByteArray} (c0 : W1.cell? ⟨g, 0, none⟩ = some (.string p)) (c1 : W1.cell? ⟨g, 1, none⟩ = some (.string q)) (h : Below W1.heap.size W1 w) : KS W1 g p q w :=
  ⟨(h.cell (p := ⟨g, 0, none⟩) (World.block_lt_of_cell? _ ⟨g, 0, none⟩ c0)).trans c0, (h.cell (p := ⟨g, 1, none⟩) (World.block_lt_of_cell? _ ⟨g, 1, none⟩ c1)).trans c1, h⟩
theorem KS.alloc {W1 w : World} {g : Nat} {p q : ByteArray} (c0 : W1.cell? ⟨g, 0, none⟩ = some (.string p)) (c1 : W1.cell? ⟨g, 1, none⟩ = some (.string q)) (o : Obj) (h : KS W1 g p q w) : KS W1 g p q (w.alloc o) :=
  KS.mk' c0 c1 (h.2.2.alloc h.2.2.size _)
theorem below_d (W1 : World) (m : Nat) (o : Obj) : Below W1.heap.size W1 ((W1.drewN m).alloc o) := by
  refine Below.alloc ?_ ?_ _
  · exact ⟨rfl, rfl, rfl, Nat.le_refl _, fun _ _ => rfl⟩
  · exact Nat.le_refl _
theorem below_d2 (W1 : World) (m : Nat) (o o' : Obj) : Below W1.heap.size W1 (((W1.drewN m).alloc o).alloc o') := by
  refine Below.alloc (below_d W1 m o) ?_ _
  simp
theorem RdT.drop {w : World} {b o n c : Nat} {l : List Tg} (h : RdT w (some ⟨b, o, none⟩) n c l) {k : Nat} (hk : k ≤ n) : RdT w (some ⟨b, o + k * 2, none⟩) (n - k) (c - k) (l.drop k) := by
  refine ⟨by rw [List.length_drop, h.1], by have := h.2.1; omega, by have := h.2.2.1; omega, fun z hz => h.sizes z (List.mem_of_mem_drop hz), fun j t ht => ?_⟩
  rw [List.getElem?_drop] at ht
  obtain ⟨b', o', hA, h1, h2⟩ := h.2.2.2.2 _ t ht
  injection hA with hA
  injection hA with e1 e2
  subst e1; subst e2
  refine ⟨_, _, rfl, ?_, ?_⟩
  · rw [← h1]; congr 2; omega
  · rw [← h2]; congr 2; omega
theorem own_ne {h h' : Nat} (hne : h' ≠ h) : ∀ b o, (some (⟨h', 0, none⟩ : Addr)) = some ⟨b, o, none⟩ → (Value.slice (some ⟨h, 0, none⟩) 0 0).ownBlock ≠ some b := by
  rintro b o e
  injection e with e
  injection e with e1
  subst e1
  simp only [Value.ownBlock, ne_eq, Option.some.injEq]
  exact fun x => hne x.symm
theorem RdT.end_ {w : World} {A : Option Addr} {j m c : Nat} {l : List Tg} (hl : l.length ≤ j) (hm : m = 0) (hc : c ≤ maxLen) : RdT w A m c (l.drop j) := by
  subst hm
  rw [List.drop_of_length_le hl]
  exact RdT.nil w A c hc
theorem RdT.far {W1 w : World} {A : Option Addr} {n c : Nat} {l : List Tg} {g : Nat} {p q : ByteArray} (h : RdT W1 A n c l) (hk : KS W1 g p q w) : RdT w A n c l := h.below hk.2.2
theorem ref_fin {l : List Tg} {k j : Nat} {t : Tg} (ht : l[k]? = some t) (hS : Strict (srt (l.take k))) (h1 : ∀ x ∈ (srt (l.take k)).take j, lt x t = true) (h2 : ∀ x, (srt (l.take k))[j]? = some x → lt t x = true) :
    ([] ++ (srt (l.take k)).take j ++ [t]) ++ (srt (l.take k)).drop j = srt (l.take (k + 1)) ∧ Strict (srt (l.take (k + 1))) := by
  have e : l.take (k + 1) = l.take k ++ [t] := by rw [List.take_add_one, ht]; rfl
  rw [e, srt_snoc]
  obtain ⟨a, b⟩ := strict_ins hS h1 h2
  exact ⟨by rw [← a]; simp, b⟩
theorem str_nm {p q p' q' : ByteArray} (h : (p'.toList == p.toList) = true) : nm (p', q') = nm (p, q) := by
  simp only [nm]; rw [← Lib.toList_data, ← Lib.toList_data]; exact beq_iff_eq.1 h
theorem ref_less {s : List Tg} {j : Nat} {p q p' q' : ByteArray} {x : Tg} (hg : s[j]? = some (p', q')) (h1 : Op.bytesLess p'.toList p.toList = false) (h2 : (p'.toList == p.toList) = false) (hx : s[j]? = some x) : lt (p, q) x = true := by
  rw [hg] at hx
  obtain rfl := Option.some.inj hx
  rw [Lib.toList_data, Lib.toList_data] at h1 h2
  rcases lt_total (p, q) (p', q') with e | e | e
  · exact absurd e.symm (beq_eq_false_iff_ne.1 h2)
  · exact e
  · exact absurd (e.symm.trans h1) (by decide)
theorem SortOut.okR {l : List Tg} {w w' : World} {A : Option Addr} {n c : Nat} (h : sortErr l = 0 ∧ sortT l = srt l) (hr : RdT w' A n c (srt l)) (hn8 : n ≤ 8) (hb : Below w.heap.size w w') :
    SortOut l w (.returned (.tuple #[.slice A n c, .int .i64 0])) w' :=
  ⟨A, n, c, by rw [h.1], hn8, by rw [h.2]; exact hr, hb⟩
def Less (s : List Tg) (t : Tg) (j : Nat) : Prop := ∀ x ∈ s.take j, lt x t = true
theorem less_next {s : List Tg} {j : Nat} {p q p' q' : ByteArray} (h : Less s (p, q) j) (hg : s[j]? = some (p', q')) (h1 : Op.bytesLess p'.toList p.toList = true) : Less s (p, q) (j + 1) := by
  intro x hx
  rw [List.take_add_one, hg] at hx
  rcases List.mem_append.1 hx with hx | hx
  · exact h x hx
  · simp at hx; subst hx
    rw [Lib.toList_data, Lib.toList_data] at h1
    exact h1
end Go.Proofs.Ytnmhgbdmjgejfaa
