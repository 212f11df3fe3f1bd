/- Places of the program's tables in memory, and what stays true of them. Conditions: none beyond those typed. -/
import Derived.Test.YtcckfdhajbbieaaMprobe
import Derived.Test.YtcckfdhajbbieaaMprog
import Derived.Test.YtcckfdhajbbieaaIhash
import Derived.Test.YtcckfdhajbbieaaKu64
import Derived.Test.YtcckfdhajbbieaaKmake
import Derived.Laws.OwnMore
namespace Go.Proofs.Ytcckfdhajbbieaa
open Go.ChangeShapes Go.WideShapes Go.ChangeAt Go.RowKit
set_option linter.unusedVariables false
set_option linter.unusedSimpArgs false
set_option maxRecDepth 100000

/-- A place as it lies in memory: in use, the place of the key's hash, the key, the value. -/
abbrev Pl (α : Type) := Bool × Int × ByteArray × α
/-- A free place has the zero value. -/
def plOf {α : Type} (z : α) (home : ByteArray → Nat) : Option (ByteArray × α) → Pl α
  | none => (false, 0, ⟨#[]⟩, z)
  | some e => (true, (home e.1 : Int), e.1, e.2)
def plE {α : Type} (V : α → Value) (r : Pl α) : List Value := [.bool r.1, .int .i64 r.2.1, .string r.2.2.1, V r.2.2.2]
/-- The place of a key's hash. -/
def homeT (T : List Int) (seed : Int) (N : Nat) (s : ByteArray) : Nat := (slotP (hashP T seed s) N).toNat
theorem hash_bd (t : List Int) (seed : Int) (key : ByteArray) : 0 ≤ hashP t seed key ∧ hashP t seed key ≤ 18446744073709551615 := by
  unfold hashP
  split
  · exact bits_within .xor .u64 _ _
  · omega
theorem home_val (T : List Int) (seed : Int) {N : Nat} (hN : 0 < N) (s : ByteArray) : slotP (hashP T seed s) N = (homeT T seed N s : Int) ∧ homeT T seed N s < N := by
  have h0 := Int.emod_nonneg (hashP T seed s) (show (N : Int) ≠ 0 by omega)
  have h1 := Int.emod_lt_of_pos (hashP T seed s) (show (0 : Int) < N by omega)
  unfold homeT slotP
  rw [if_neg (by omega)]
  omega
/-- One step nearer. -/
theorem dst_step {N i e : Nat} (hi : i < N) (he : e < N) (hne : i ≠ e) : dst N ((i + 1) % N) e + 1 = dst N i e := by
  rw [next_mod hi]
  unfold dst
  split <;> split <;> (try split) <;> omega
theorem dst_pos {N i e : Nat} (hi : i < N) (he : e < N) (hne : i ≠ e) : 0 < dst N i e := by
  rcases Nat.eq_zero_or_pos (dst N i e) with h | h
  · exact absurd (dst_zero hi he h) hne
  · exact h
section
variable {α : Type} {t : Tb α} {home : ByteArray → Nat} {m : MSt α} {i j : Nat} {s : ByteArray} {v : α}
theorem tb_len_set {x : Option (ByteArray × α)} : (t.set i x).length = t.length := List.length_set
/-- Two places are free, where there are more than one more than keys. -/
theorem RelT.room2 (R : RelT t m) (G : GoodM m) (h : LP home t) (hi : Emp t i) (hlt : m.l.length + 1 < t.length) : ∃ e, Emp t e ∧ e ≠ i := by
  have hil : i < t.length := (List.getElem?_eq_some_iff.1 hi).1
  rcases Classical.em (∃ e, Emp t e ∧ e ≠ i) with h1 | h1
  · exact h1
  · exfalso
    have hall : ∀ (t : Tb α) (n : Nat), (∀ j, Emp t j → j + n = i) → t.length ≤ (ents t).length + 1 := by
      intro t
      induction t with
      | nil => intro n _; exact Nat.zero_le _
      | cons x r ih =>
        intro n hn
        have hr := ih (n + 1) fun j hj => by have := hn (j + 1) hj; omega
        cases x with
        | none =>
          have h0 := hn 0 rfl
          have hfull : ∀ (r : Tb α), (∀ j, ¬ Emp r j) → (ents r).length = r.length := by
            intro r
            induction r with
            | nil => intro _; rfl
            | cons y q ih2 =>
              intro hq
              cases y with
              | none => exact absurd rfl (hq 0)
              | some e => show (e :: ents q).length = _; rw [List.length_cons, List.length_cons, ih2 fun j hj => hq (j + 1) hj]
          have h2 := hfull r fun j hj => by have := hn (j + 1) hj; omega
          show (none :: r).length ≤ (ents r).length + 1
          rw [List.length_cons]; omega
        | some e => show (some e :: r).length ≤ (e :: ents r).length + 1; rw [List.length_cons, List.length_cons]; omega
    have h2 := hall t 0 fun j hj => by
      rcases Nat.decEq j i with h3 | h3
      · exact absurd ⟨j, hj, h3⟩ h1
      · omega
    have := R.count G h
    omega
end
/-- A copy of a table in new memory. -/
def CloneOut (w : World) (n : Nat) (T : List Int) (e : Ending) (w' : World) : Prop := ∃ b c, e = .returned (.slice (some ⟨b, 0, none⟩) n c) ∧ RdU w' (some ⟨b, 0, none⟩) n c T ∧ w.heap.size ≤ b ∧ b < w'.heap.size ∧ Below w.heap.size w w'
set_option maxHeartbeats 400000 in
theorem cloneU_any {A : Option Addr} {n c : Nat} {T : List Int} {w : World} (h : RdU w A n c T) (hn : n ≤ 1000000) (h0 : 0 < n) : Calls Try.prog 27 #[.slice A n c] w (CloneOut w n T) := by
  have hln := h.len
  have hb := h.2.2.2.1
  obtain ⟨b0, o0, z0, rfl, _⟩ := h.at_ h0
  have hnil : ∀ W, (binOp .eql 22 (.slice (some ⟨b0, o0, none⟩) n c) (.slice none 0 0)).run Try.prog W = .ok (.bool false) W := fun W => Lib.run_eql_slice_some_nil W _ _ _ Try.underlying22
  have b1 : Below w.heap.size w (w.alloc (.cells #[] 34)) := (Below.refl _ _).alloc (Nat.le_refl _) _
  have R1 := h.toK.below b1
  have O1 : OwnK kU (w.alloc (.cells #[] 34)) (.slice (some ⟨w.heap.size, 0, none⟩) 0 0) [] := OwnK.empty' kU rfl rfl
  have N1 : New w (.slice (some ⟨w.heap.size, 0, none⟩) 0 0) := New.lit (Nat.le_refl _)
  have hby : ([] : List Int).length + n ≤ 1000000000 := by simp; omega
  have hl2 : ([] ++ T).length = n := by simp [hln]
  clear h
  go_enter Try.func27, Try.ntmps27
  go_wp2_with (at_builtin; refine wpList_appK kU rfl (.tmp 5) (.tmp 6) rfl _ [] rfl _ n c T rfl O1 R1 hby ?_; intro v2 w2 O2 G2 hat2; have N2 : New w v2 := New.app N1 b1 hat2; have B2 := b1.grown G2 b1.size (fun q hq => N1 q hq); obtain ⟨A2, c2, rfl, R2, hh⟩ := O2.form hl2)
  go_ret
  rcases hh with ⟨_, h2, _⟩ | ⟨g, rfl, hg⟩
  · simp at h2; subst h2; simp at hln; omega
  · exact ⟨g, c2, rfl, RdU.ofK (by simpa using R2) hb, N2 g rfl, hg, B2⟩
theorem list_set_self {β : Type} {l : List β} {i : Nat} {a : β} (h : l[i]? = some a) : l.set i a = l := by
  apply List.ext_getElem?
  intro q
  rw [List.getElem?_set]
  by_cases e : i = q
  · subst e
    rw [if_pos rfl, if_pos (List.getElem?_eq_some_iff.1 h).1, h]
  · rw [if_neg e]
theorem str_eq_at {a b : ByteArray} : (a.toList == b.toList) = decide (a = b) := str_beq a b
theorem k1_rng {k c : Nat} (h : c = k + 1) : Rng k c := ⟨by omega, by omega⟩
theorem k0_rng {k c : Nat} (h : c = k) : Rng k c := ⟨by omega, by omega⟩
theorem below_grown_none {w w' : World} (hg : w.grownBy w' none) : Below w.heap.size w w' := (Below.refl _ _).grown hg (Nat.le_refl _) (fun q hq => by cases hq)
theorem ne_ge {a b c : Nat} (h : c ≤ a) (h' : b < c) : a ≠ b := by omega
theorem ne_lt {a b c : Nat} (h : a < c) (h' : b = c) : a ≠ b := by omega
end Go.Proofs.Ytcckfdhajbbieaa
