/- heavykeyslaw03.list: up to nine tags. Conditions: none beyond those typed. -/
import Derived.Test.YtbdafhephmoedaaTm
import Derived.Test.YtbdafhephmoedaaKmask
namespace Go.Proofs.Ytbdafhephmoedaa
open Go.ChangeShapes Go.WideShapes Go.ChangeAt Go.RowKit
set_option linter.unusedVariables false
set_option maxRecDepth 100000
set_option linter.unusedSimpArgs false

def lit1 : ByteArray := ⟨#[97, 98, 99, 100, 101, 102, 103, 104, 105, 106, 107, 108, 109, 110, 111, 112, 95, 46, 45, 48, 49, 50, 51, 52, 53, 54, 55, 56, 57, 113, 114, 115, 116, 117, 118, 119, 120, 121, 122]⟩
def lit2 : ByteArray := ⟨#[48, 49, 50, 51, 52, 53, 54, 55, 56, 57, 48, 49, 50, 51, 52, 53, 54, 55, 56, 57, 48, 49, 50, 51, 52, 53, 54, 55, 56, 57, 48, 49, 50, 51, 52, 53, 54, 55, 56, 57]⟩
/-- A tag of list's own making. -/
def Good (t : Tg) : Prop := (vErr t = 0 ∨ vErr t = 4) ∧ t.1.size ≤ 80 ∧ t.2.size ≤ 80
theorem lit1_names : ∀ c ∈ lit1.data.toList, nbI (c.toNat : Int) = true := by decide
theorem mem_extract {s : ByteArray} {a b : Nat} {c : UInt8} (h : c ∈ (s.extract a b).data.toList) : c ∈ s.data.toList := by
  rw [ByteArray.data_extract] at h
  simp only [Array.toList_extract, List.extract_eq_take_drop] at h
  exact List.mem_of_mem_drop (List.mem_of_mem_take h)
theorem good_of (a b v : Nat) (ha : (a : Int) < 20) (hv : (v : Int) < 41) : Good (lit1.extract a (20 + b), lit2.extract 0 v) := by
  have s1 : lit1.size = 39 := rfl
  have s2 : lit2.size = 40 := rfl
  have h1 : (lit1.extract a (20 + b)).size ≤ 39 := by rw [ByteArray.size_extract, s1]; omega
  have h2 : (lit2.extract 0 v).size ≤ 40 := by rw [ByteArray.size_extract, s2]; omega
  have h3 : 0 < (lit1.extract a (20 + b)).size := by rw [ByteArray.size_extract, s1]; omega
  have hn : nameOk (nm (lit1.extract a (20 + b), lit2.extract 0 v)) = true := by
    unfold nameOk nm
    rw [Bool.and_eq_true]
    refine ⟨List.all_eq_true.2 fun c hc => lit1_names c (mem_extract hc), ?_⟩
    rw [← Lib.toList_data, ba_some h3]; rfl
  refine ⟨?_, by show (lit1.extract a (20 + b)).size ≤ 80; omega, by show (lit2.extract 0 v).size ≤ 80; omega⟩
  unfold vErr
  rw [if_pos hn]
  split
  · exact .inr rfl
  · exact .inl rfl
theorem ext_size (s : ByteArray) (a b : Nat) (hs : s.size ≤ 1000) : (s.extract a b).size ≤ 140737488355328 := by rw [ByteArray.size_extract]; omega

theorem good_snoc {l : List Tg} {t : Tg} (h : ∀ t ∈ l, Good t) (ht : Good t) : ∀ x ∈ l ++ [t], Good x := by
  intro x hx
  rcases List.mem_append.1 hx with hx | hx
  · exact h x hx
  · simp at hx; subst hx; exact ht
theorem RdI.lt {w : World} {A : Option Addr} {n c : Nat} (h : RdI w A n c) : ∀ j, j < n → ∀ b o, A = Option.some ⟨b, o, Option.none⟩ → b ≠ w.heap.size := by
  intro j hj b o hA
  obtain ⟨b', o', z, hA', hc, _⟩ := h.2.2 j hj
  rw [hA] at hA'
  injection hA' with hA'
  injection hA' with e1 e2
  subst e1
  have := World.block_lt_of_cell? w ⟨b, _, Option.none⟩ hc
  intro e
  simp at this
  omega
theorem mask_zero : bits .and .i64 0 3 = 0 := by decide

theorem cellsT_set0 : ∀ (l : List Tg) (j : Nat) (p q s : ByteArray), l[j]? = some (p, q) → (cellsT l).set (j * 2) (.string s) = cellsT (l.set j (s, q))
  | [], j, p, q, s, h => by simp at h
  | x :: r, 0, p, q, s, h => by simp at h; subst h; rfl
  | x :: r, j + 1, p, q, s, h => by
    have ih := cellsT_set0 r j p q s (by simpa using h)
    have e : cellsT (x :: r) = .string x.1 :: .string x.2 :: cellsT r := rfl
    have a : (j + 1) * 2 = j * 2 + 1 + 1 := by omega
    rw [e, a]
    simp only [List.set_cons_succ, ih]
    rfl
theorem cellsT_set1 : ∀ (l : List Tg) (j : Nat) (p q s : ByteArray), l[j]? = some (p, q) → (cellsT l).set (j * 2 + 1) (.string s) = cellsT (l.set j (p, s))
  | [], j, p, q, s, h => by simp at h
  | x :: r, 0, p, q, s, h => by simp at h; subst h; rfl
  | x :: r, j + 1, p, q, s, h => by
    have ih := cellsT_set1 r j p q s (by simpa using h)
    have e : cellsT (x :: r) = .string x.1 :: .string x.2 :: cellsT r := rfl
    have a : (j + 1) * 2 + 1 = j * 2 + 1 + 1 + 1 := by omega
    rw [e, a]
    simp only [List.set_cons_succ, ih]
    rfl
/-- A tag of list's, whatever is changed in one of them. -/
def Fair (z : Int) (t : Tg) : Prop := (z = 0 → vErr t = 0 ∨ vErr t = 4) ∧ t.1.size ≤ 80 ∧ t.2.size ≤ 80
theorem fair_good {z : Int} {l : List Tg} (h : ∀ t ∈ l, Good t) : ∀ t ∈ l, Fair z t := fun t ht => ⟨fun _ => (h t ht).1, (h t ht).2⟩
theorem fair_set {z : Int} {l : List Tg} {j : Nat} {t : Tg} (h : ∀ t ∈ l, Good t) (hz : z ≠ 0) (ht : t.1.size ≤ 80 ∧ t.2.size ≤ 80) : ∀ x ∈ l.set j t, Fair z x := by
  intro x hx
  rcases List.mem_or_eq_of_mem_set hx with h' | rfl
  · exact ⟨fun e => absurd e hz, (h x h').2⟩
  · exact ⟨fun e => absurd e hz, ht⟩

/-- What list gives back. -/
def ListOut (w : World) (P : Tg → Prop) (e : Ending) (w' : World) : Prop :=
  ∃ A n c l, e = .returned (.slice A n c) ∧ n ≤ 9 ∧ RdT w' A n c l ∧ (∀ t ∈ l, P t) ∧ Below w.heap.size w w'

end Go.Proofs.Ytbdafhephmoedaa
