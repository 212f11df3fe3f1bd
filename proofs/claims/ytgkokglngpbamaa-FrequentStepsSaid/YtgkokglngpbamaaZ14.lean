/- Words laid together in one text. Conditions: none beyond those typed. -/
import Derived.Test.YtgkokglngpbamaaZ13
import Derived.Test.YtgkokglngpbamaaZ11
import Derived.Test.YtgkokglngpbamaaZ03
import Derived.Laws.OwnMore
import Derived.Deep.CutRange
/- Places of the program's tables in memory, and what stays true of them. Conditions: none beyond those typed. -/
namespace Go.Proofs.Ytgkokglngpbamaa
open Go.ChangeShapes Go.WideShapes Go.ChangeAt Go.RowKit
set_option linter.unusedVariables false
set_option linter.unusedSimpArgs false
set_option maxRecDepth 100000

/-- A place as it lies in memory: in use, the place of the key's hash, the key, the value. -/
abbrev Pl (α : Type) := Bool × Int × ByteArray × α
/-- A free place has the zero value. -/
def plOf {α : Type} (z : α) (home : ByteArray → Nat) : Option (ByteArray × α) → Pl α
  | none => (false, 0, ⟨#[]⟩, z)
  | some e => (true, (home e.1 : Int), e.1, e.2)
def plE {α : Type} (V : α → Value) (r : Pl α) : List Value := [.bool r.1, .int .i64 r.2.1, .string r.2.2.1, V r.2.2.2]
/-- The place of a key's hash. -/
def homeT (T : List Int) (seed : Int) (N : Nat) (s : ByteArray) : Nat := (slotP (hashP T seed s) N).toNat
theorem hash_bd (t : List Int) (seed : Int) (key : ByteArray) : 0 ≤ hashP t seed key ∧ hashP t seed key ≤ 18446744073709551615 := by
  unfold hashP
  split
  · exact bits_within .xor .u64 _ _
  · omega
theorem home_val (T : List Int) (seed : Int) {N : Nat} (hN : 0 < N) (s : ByteArray) : slotP (hashP T seed s) N = (homeT T seed N s : Int) ∧ homeT T seed N s < N := by
  have h0 := Int.emod_nonneg (hashP T seed s) (show (N : Int) ≠ 0 by omega)
  have h1 := Int.emod_lt_of_pos (hashP T seed s) (show (0 : Int) < N by omega)
  unfold homeT slotP
  rw [if_neg (by omega)]
  omega
/-- One step nearer. -/
theorem dst_step {N i e : Nat} (hi : i < N) (he : e < N) (hne : i ≠ e) : dst N ((i + 1) % N) e + 1 = dst N i e := by
  rw [next_mod hi]
  unfold dst
  split <;> split <;> (try split) <;> omega
theorem dst_pos {N i e : Nat} (hi : i < N) (he : e < N) (hne : i ≠ e) : 0 < dst N i e := by
  rcases Nat.eq_zero_or_pos (dst N i e) with h | h
  · exact absurd (dst_zero hi he h) hne
  · exact h
section
variable {α : Type} {t : Tb α} {home : ByteArray → Nat} {m : MSt α} {i j : Nat} {s : ByteArray} {v : α}
theorem tb_len_set {x : Option (ByteArray × α)} : (t.set i x).length = t.length := List.length_set
/-- Two places are free, where there are more than one more than keys. -/
theorem RelT.room2 (R : RelT t m) (G : GoodM m) (h : LP home t) (hi : Emp t i) (hlt : m.l.length + 1 < t.length) : ∃ e, Emp t e ∧ e ≠ i := by
  have hil : i < t.length := (List.getElem?_eq_some_iff.1 hi).1
  rcases Classical.em (∃ e, Emp t e ∧ e ≠ i) with h1 | h1
  · exact h1
  · exfalso
    have hall : ∀ (t : Tb α) (n : Nat), (∀ j, Emp t j → j + n = i) → t.length ≤ (ents t).length + 1 := by
      intro t
      induction t with
      | nil => intro n _; exact Nat.zero_le _
      | cons x r ih =>
        intro n hn
        have hr := ih (n + 1) fun j hj => by have := hn (j + 1) hj; omega
        cases x with
        | none =>
          have h0 := hn 0 rfl
          have hfull : ∀ (r : Tb α), (∀ j, ¬ Emp r j) → (ents r).length = r.length := by
            intro r
            induction r with
            | nil => intro _; rfl
            | cons y q ih2 =>
              intro hq
              cases y with
              | none => exact absurd rfl (hq 0)
              | some e => show (e :: ents q).length = _; rw [List.length_cons, List.length_cons, ih2 fun j hj => hq (j + 1) hj]
          have h2 := hfull r fun j hj => by have := hn (j + 1) hj; omega
          show (none :: r).length ≤ (ents r).length + 1
          rw [List.length_cons]; omega
        | some e => show (some e :: r).length ≤ (e :: ents r).length + 1; rw [List.length_cons, List.length_cons]; omega
    have h2 := hall t 0 fun j hj => by
      rcases Nat.decEq j i with h3 | h3
      · exact absurd ⟨j, hj, h3⟩ h1
      · omega
    have := R.count G h
    omega
end
/-- A copy of a table in new memory. -/
def CloneOut (w : World) (n : Nat) (T : List Int) (e : Ending) (w' : World) : Prop := ∃ b c, e = .returned (.slice (some ⟨b, 0, none⟩) n c) ∧ RdU w' (some ⟨b, 0, none⟩) n c T ∧ w.heap.size ≤ b ∧ b < w'.heap.size ∧ Below w.heap.size w w'
set_option maxHeartbeats 400000 in
theorem cloneU_any {A : Option Addr} {n c : Nat} {T : List Int} {w : World} (h : RdU w A n c T) (hn : n ≤ 1000000) (h0 : 0 < n) : Calls Try.prog 51 #[.slice A n c] w (CloneOut w n T) := by
  have hln := h.len
  have hb := h.2.2.2.1
  obtain ⟨b0, o0, z0, rfl, _⟩ := h.at_ h0
  have hnil : ∀ W, (binOp .eql 64 (.slice (some ⟨b0, o0, none⟩) n c) (.slice none 0 0)).run Try.prog W = .ok (.bool false) W := fun W => Lib.run_eql_slice_some_nil W _ _ _ Try.underlying64
  have b1 : Below w.heap.size w (w.alloc (.cells #[] 30)) := (Below.refl _ _).alloc (Nat.le_refl _) _
  have R1 := h.toK.below b1
  have O1 : OwnK kU (w.alloc (.cells #[] 30)) (.slice (some ⟨w.heap.size, 0, none⟩) 0 0) [] := OwnK.empty' kU rfl rfl
  have N1 : New w (.slice (some ⟨w.heap.size, 0, none⟩) 0 0) := New.lit (Nat.le_refl _)
  have hby : ([] : List Int).length + n ≤ 1000000000 := by simp; omega
  have hl2 : ([] ++ T).length = n := by simp [hln]
  clear h
  go_enter Try.func51, Try.ntmps51
  go_wp2_with (at_builtin; refine wpList_appK kU rfl (.tmp 5) (.tmp 6) rfl _ [] rfl _ n c T rfl O1 R1 hby ?_; intro v2 w2 O2 G2 hat2; have N2 : New w v2 := New.app N1 b1 hat2; have B2 := b1.grown G2 b1.size (fun q hq => N1 q hq); obtain ⟨A2, c2, rfl, R2, hh⟩ := O2.form hl2)
  go_ret
  rcases hh with ⟨_, h2, _⟩ | ⟨g, rfl, hg⟩
  · simp at h2; subst h2; simp at hln; omega
  · exact ⟨g, c2, rfl, RdU.ofK (by simpa using R2) hb, N2 g rfl, hg, B2⟩
theorem list_set_self {β : Type} {l : List β} {i : Nat} {a : β} (h : l[i]? = some a) : l.set i a = l := by
  apply List.ext_getElem?
  intro q
  rw [List.getElem?_set]
  by_cases e : i = q
  · subst e
    rw [if_pos rfl, if_pos (List.getElem?_eq_some_iff.1 h).1, h]
  · rw [if_neg e]
theorem str_eq_at {a b : ByteArray} : (a.toList == b.toList) = decide (a = b) := str_beq a b
theorem k1_rng {k c : Nat} (h : c = k + 1) : Rng k c := ⟨by omega, by omega⟩
theorem k0_rng {k c : Nat} (h : c = k) : Rng k c := ⟨by omega, by omega⟩
theorem below_grown_none {w w' : World} (hg : w.grownBy w' none) : Below w.heap.size w w' := (Below.refl _ _).grown hg (Nat.le_refl _) (fun q hq => by cases hq)
theorem ne_ge {a b c : Nat} (h : c ≤ a) (h' : b < c) : a ≠ b := by omega
theorem ne_lt {a b c : Nat} (h : a < c) (h' : b = c) : a ≠ b := by omega
end Go.Proofs.Ytgkokglngpbamaa

/- The program's tables of uint64 values in memory: the box, the row of places. Conditions: none beyond those typed. -/
namespace Go.Proofs.Ytgkokglngpbamaa
open Go.ChangeShapes Go.WideShapes Go.ChangeAt Go.RowKit
set_option linter.unusedVariables false
set_option linter.unusedSimpArgs false
set_option maxRecDepth 100000

/-- Places with their values. -/
def kPw : Kind (Pl Int) where
  ty := 92
  sl := 85
  k := 4
  by_ := 40
  zero := .agg #[.bool false, .int .i64 0, .string ⟨#[]⟩, .int .u64 0]
  enc := plE (fun z : Int => Value.int .u64 z)
  pos := by omega
  len := fun _ => rfl
  one := fun a u hu => by simp [plE] at hu; rcases hu with rfl | rfl | rfl | rfl <;> rfl
  under := Try.underlying85
  info := by kernel_rfl
  zk := rfl
  small := by omega
/-- A table of the program: its box and its row of N places. -/
structure Mxw (col : Col) (k : Nat) (w : World) (g n u N : Nat) (T : List Int) (seed : Int) (A : Option Addr) (cT b c : Nat) (l : List (Pl Int)) : Prop where
  box : BoxC col w g k #[.slice A 16 cT, .int .u64 seed, .int .i64 n, .int .i64 u, .slice (some ⟨b, 0, none⟩) N c] 87
  tab : RdU0 col w A 16 cT T
  row : OwnKc kPw col w (k + 1) (.slice (some ⟨b, 0, none⟩) N c) l
  s0 : 0 ≤ seed ∧ seed ≤ 18446744073709551615
  n1 : 1 ≤ n ∧ n ≤ 8192
  nN : N = 2 * n
  k1 : 1 ≤ k
section
variable {P : Nat → Prop} {col col' : Col} {w w' : World} {k g n u N : Nat} {T : List Int} {seed : Int} {A : Option Addr} {cT b c : Nat} {l : List (Pl Int)} {i : Nat} {r : Pl Int}
theorem Mxw.keep (h : Mxw col k w g n u N T seed A cT b c l) (hs : StepC P col w col' w') (hp : ∀ c, Rng k c → ¬ P c) (h0 : ¬ P 0) : Mxw col' k w' g n u N T seed A cT b c l :=
  ⟨h.box.keep hs (hp _ ⟨Nat.le_refl _, by omega⟩), h.tab.keep hs h0, h.row.keep hs (hp _ ⟨by omega, by omega⟩), h.s0, h.n1, h.nN, h.k1⟩
theorem Mxw.below (h : Mxw col k w g n u N T seed A cT b c l) (ht : Tidy col w) (hb : Below w.heap.size w w') : Mxw col k w' g n u N T seed A cT b c l := h.keep (P := fun _ => False) (StepC.below ht hb) (fun _ _ h => h) (fun h => h)
theorem Mxw.drewN (h : Mxw col k w g n u N T seed A cT b c l) (ht : Tidy col w) (j : Nat) : Mxw col k (w.drewN j) g n u N T seed A cT b c l := h.below ht (below_drewN (Below.refl _ _) j)
theorem Mxw.len (h : Mxw col k w g n u N T seed A cT b c l) : l.length = N := h.row.own.len
theorem Mxw.c0 (h : Mxw col k w g n u N T seed A cT b c l) : w.cell? ⟨g, 0, none⟩ = some (.slice A 16 cT) := h.box.cell 0 rfl
theorem Mxw.c1 (h : Mxw col k w g n u N T seed A cT b c l) : w.cell? ⟨g, 1, none⟩ = some (.int .u64 seed) := h.box.cell 1 rfl
theorem Mxw.c2 (h : Mxw col k w g n u N T seed A cT b c l) : w.cell? ⟨g, 2, none⟩ = some (.int .i64 n) := h.box.cell 2 rfl
theorem Mxw.c3 (h : Mxw col k w g n u N T seed A cT b c l) : w.cell? ⟨g, 3, none⟩ = some (.int .i64 u) := h.box.cell 3 rfl
theorem Mxw.c4 (h : Mxw col k w g n u N T seed A cT b c l) : w.cell? ⟨g, 4, none⟩ = some (.slice (some ⟨b, 0, none⟩) N c) := h.box.cell 4 rfl
theorem Mxw.cap (h : Mxw col k w g n u N T seed A cT b c l) : N ≤ c ∧ c ≤ 9223372036854775807 := ⟨h.row.own.reads.cap, h.row.own.reads.max⟩
theorem Mxw.at_ (h : Mxw col k w g n u N T seed A cT b c l) (hr : l[i]? = some r) :
    w.cell? ⟨b, i * 4, none⟩ = some (.bool r.1) ∧ w.cell? ⟨b, i * 4 + 1, none⟩ = some (.int .i64 r.2.1) ∧ w.cell? ⟨b, i * 4 + 2, none⟩ = some (.string r.2.2.1) ∧ w.cell? ⟨b, i * 4 + 3, none⟩ = some ((fun z : Int => Value.int .u64 z) r.2.2.2) ∧ ∀ z, w.frozen? ⟨b, z, none⟩ = false :=
  ⟨h.row.own.cell hr (i := 0) rfl, h.row.own.cell hr (i := 1) rfl, h.row.own.cell hr (i := 2) rfl, h.row.own.cell hr (i := 3) rfl, fun z => h.row.own.free z⟩
/-- A place is written. -/
theorem Mxw.put (h : Mxw col k w g n u N T seed A cT b c l) (ht : Tidy col w) (hi : i < N) (r : Pl Int) :
    Mxw col k ((((w.setCell ⟨b, i * 4, none⟩ (.bool r.1)).setCell ⟨b, i * 4 + 1, none⟩ (.int .i64 r.2.1)).setCell ⟨b, i * 4 + 2, none⟩ (.string r.2.2.1)).setCell ⟨b, i * 4 + 3, none⟩ ((fun z : Int => Value.int .u64 z) r.2.2.2)) g n u N T seed A cT b c (l.set i r) ∧
      StepC (fun d => d = k + 1) col w col ((((w.setCell ⟨b, i * 4, none⟩ (.bool r.1)).setCell ⟨b, i * 4 + 1, none⟩ (.int .i64 r.2.1)).setCell ⟨b, i * 4 + 2, none⟩ (.string r.2.2.1)).setCell ⟨b, i * 4 + 3, none⟩ ((fun z : Int => Value.int .u64 z) r.2.2.2)) := by
  have hl := h.len
  have hg := List.getElem?_eq_getElem (show i < l.length by omega)
  obtain ⟨h1, s1⟩ := h.row.put4 ht rfl hg (a' := r) (u0 := .bool r.1) (u1 := .int .i64 r.2.1) (u2 := .string r.2.2.1) (u3 := (fun z : Int => Value.int .u64 z) r.2.2.2) (p0 := (r.1, l[i].2.1, l[i].2.2.1, l[i].2.2.2)) (p1 := (r.1, r.2.1, l[i].2.2.1, l[i].2.2.2)) (p2 := (r.1, r.2.1, r.2.2.1, l[i].2.2.2)) rfl rfl rfl rfl
  have h0 : ¬ (0 = k + 1) := by omega
  exact ⟨⟨h.box.keep s1 (by omega), h.tab.keep s1 h0, h1, h.s0, h.n1, h.nN, h.k1⟩, s1⟩
/-- A value is written. -/
theorem Mxw.val (h : Mxw col k w g n u N T seed A cT b c l) (ht : Tidy col w) (hr : l[i]? = some r) (v : Int) :
    Mxw col k (w.setCell ⟨b, i * 4 + 3, none⟩ ((fun z : Int => Value.int .u64 z) v)) g n u N T seed A cT b c (l.set i (r.1, r.2.1, r.2.2.1, v)) ∧ StepC (fun d => d = k + 1) col w col (w.setCell ⟨b, i * 4 + 3, none⟩ ((fun z : Int => Value.int .u64 z) v)) := by
  have s1 : StepC (fun d => d = k + 1) col w col (w.setCell ⟨b, i * 4 + 3, none⟩ ((fun z : Int => Value.int .u64 z) v)) := StepC.set ht h.row.col.of _
  have h1 := h.row.set (j := i) (i := 3) (a' := (r.1, r.2.1, r.2.2.1, v)) (u := (fun z : Int => Value.int .u64 z) v) hr (by show 3 < 4; omega) rfl
  have h0 : ¬ (0 = k + 1) := by omega
  exact ⟨⟨h.box.keep s1 (by omega), h.tab.keep s1 h0, h1, h.s0, h.n1, h.nN, h.k1⟩, s1⟩
/-- The number of keys is written. -/
theorem Mxw.used (h : Mxw col k w g n u N T seed A cT b c l) (ht : Tidy col w) (u' : Nat) :
    Mxw col k (w.setCell ⟨g, 3, none⟩ (.int .i64 u')) g n u' N T seed A cT b c l ∧ StepC (fun d => d = k) col w col (w.setCell ⟨g, 3, none⟩ (.int .i64 u')) := by
  have s1 : StepC (fun d => d = k) col w col (w.setCell ⟨g, 3, none⟩ (.int .i64 u')) := StepC.set ht h.box.col _
  have h0 : ¬ (0 = k) := by have := h.k1; omega
  exact ⟨⟨h.box.put 3 (.int .i64 u'), h.tab.keep s1 h0, h.row.keep s1 (by omega), h.s0, h.n1, h.nN, h.k1⟩, s1⟩
set_option maxHeartbeats 1000000 in
theorem nextw_any (h : Mxw col k w g n u N T seed A cT b c l) (hi : i < N) {r : Nat} (hr : (i + 1) % N = r) : Calls Try.prog 59 #[.pointer (some ⟨g, 0, none⟩), .int .i64 (i : Int)] w fun e w' => e = .returned (.int .i64 (r : Int)) ∧ w = w' := by
  have x4 := h.c4
  have hN := h.nN
  have hn := h.n1
  have hw : IntKind.i64.wrap ((i : Int) + 1) = (i : Int) + 1 := by rw [IntKind.wrap_i64]; omega
  have hz : ¬ (N : Int) = 0 := by omega
  have hz2 : ((N : Int) == 0) = false := beq_false_of_ne hz
  have hrN : r < N := by rw [← hr]; exact Nat.mod_lt _ (by omega)
  have ht : ((i : Int) + 1).tmod (N : Int) = (r : Int) := by
    rw [Int.tmod_eq_emod_of_nonneg (by omega), ← hr]; rfl
  have hrI : (r : Int) ≤ 16384 := by omega
  have hrn : IntKind.i64.wrap (r : Int) = (r : Int) := by rw [IntKind.wrap_i64]; omega
  clear hr h hN
  go_enter Try.func59, Try.ntmps59
  go_wp2
  go_ret
  exact ⟨rfl, rfl⟩
set_option maxHeartbeats 1000000 in
theorem stepsw_any (h : Mxw col k w g n u N T seed A cT b c l) {p q : Nat} (hp : p < N) (hq : q < N) : Calls Try.prog 62 #[.pointer (some ⟨g, 0, none⟩), .int .i64 (p : Int), .int .i64 (q : Int)] w fun e w' => e = .returned (.int .i64 (dst N p q : Int)) ∧ ∃ j, w' = w.drewN j := by
  have x4 := h.c4
  have hN := h.nN
  have hn := h.n1
  obtain ⟨d, hd⟩ : ∃ d : Int, (q : Int) - (p : Int) = d := ⟨_, rfl⟩
  obtain ⟨s, hs⟩ : ∃ s : Nat, d + (N : Int) = (s : Int) := ⟨(d + N).toNat, by omega⟩
  have hw1 : IntKind.i64.wrap ((q : Int) - (p : Int)) = d := by rw [IntKind.wrap_i64]; omega
  have hw2 : IntKind.i64.wrap (d + (N : Int)) = (s : Int) := by rw [IntKind.wrap_i64]; omega
  have hz : ¬ (N : Int) = 0 := by omega
  have hz2 : ((N : Int) == 0) = false := beq_false_of_ne hz
  obtain ⟨r, hr⟩ : ∃ r : Nat, dst N p q = r := ⟨_, rfl⟩
  have hrN : r < N := by rw [← hr]; exact dst_lt hp hq
  have ht : (s : Int).tmod (N : Int) = (r : Int) := by
    rw [Int.tmod_eq_emod_of_nonneg (by omega), ← hr, ← dst_mod hp hq, show s = q + N - p by omega]; rfl
  have hrI : (r : Int) ≤ 16384 := by omega
  have hrn : IntKind.i64.wrap (r : Int) = (r : Int) := by rw [IntKind.wrap_i64]; omega
  have hdb : -16384 ≤ d ∧ d ≤ 16384 := by omega
  have hsb : (s : Int) ≤ 32768 := by omega
  rw [hr]
  clear hr h hN hd hs
  go_enter Try.func62, Try.ntmps62
  go_wp2
  go_quiet (fail)
  go_wp2
  go_ret
  exact ⟨rfl, _, rfl⟩
set_option maxHeartbeats 1000000 in
theorem homew_any (h : Mxw col k w g n u N T seed A cT b c l) {s : ByteArray} (hsz : s.size ≤ 9223372036854775807) : Calls Try.prog 53 #[.pointer (some ⟨g, 0, none⟩), .string s] w fun e w' => e = .returned (.int .i64 (homeT T seed N s : Int)) ∧ Below w.heap.size w w' := by
  have x0 := h.c0
  have x1 := h.c1
  have x4 := h.c4
  have hN := h.nN
  have hn := h.n1
  have hbd := hash_bd T seed s
  have hNa : (-9223372036854775808 : Int) ≤ (N : Int) := by omega
  have hNb : (N : Int) ≤ 9223372036854775807 := by omega
  obtain ⟨hv, hlt⟩ := home_val T seed (N := N) (by omega) s
  have HT := h.tab.rd
  have h01 := h.s0
  clear h hN hn hlt
  go_enter Try.func53, Try.ntmps53
  go_wp2
  go_region_held3 (fun w' => w'.cell? ⟨g, 0, none⟩ = some (.slice A 16 cT) ∧ w'.cell? ⟨g, 1, none⟩ = some (.int .u64 seed) ∧ w'.cell? ⟨g, 4, none⟩ = some (.slice (some ⟨b, 0, none⟩) N c)) (first | exact ⟨x0, x1, x4⟩ | assumption) (first | (go_at_call 61; refine (hkey_drawn A 16 cT T seed s _ (HT.below (bdM _)) h01.1 h01.2 hsz).mono ?_; rintro e w' ⟨rfl, jq, rfl⟩) | (go_at_call 60; refine (hslot_any _ _ _ hbd.1 hbd.2 hNa hNb).mono ?_; rintro e w' ⟨rfl, rfl⟩))
  all_goals
    go_wp2
    go_ret
    exact ⟨rfl, below_drewN (Below.refl _ _) _⟩
end
end Go.Proofs.Ytgkokglngpbamaa

/- The program's tables of uint64 values: where a search ends. Conditions: none beyond those typed. -/
namespace Go.Proofs.Ytgkokglngpbamaa
open Go.ChangeShapes Go.WideShapes Go.ChangeAt Go.RowKit
set_option linter.unusedVariables false
set_option linter.unusedSimpArgs false
set_option maxRecDepth 100000

section
variable {P : Nat → Prop} {col col' : Col} {w w' : World} {k g n u N : Nat} {T : List Int} {seed : Int} {A : Option Addr} {cT b c : Nat} {t : Tb Int} {home : ByteArray → Nat} {s : ByteArray}
/-- Where a search ends: at the key, or at a free place, and then the key is nowhere. -/
def Foundw (t : Tb Int) (home : ByteArray → Nat) (s : ByteArray) (i : Nat) (yes : Bool) : Prop :=
  (yes = true ∧ ∃ v, t[i]? = some (some (s, v))) ∨ (yes = false ∧ Emp t i ∧ (∀ q, q < t.length → dst t.length (home s) q < dst t.length (home s) i → Occ t q) ∧ ∀ (p : Nat) (v : Int), t[p]? ≠ some (some (s, v)))
def FindOutw (t : Tb Int) (home : ByteArray → Nat) (s : ByteArray) (N : Nat) (w : World) (r : Ending) (w' : World) : Prop := ∃ (i : Nat) (yes : Bool), r = .returned (.tuple #[.int .i64 i, .bool yes]) ∧ i < N ∧ Foundw t home s i yes ∧ w = w'
set_option maxHeartbeats 2000000 in
theorem findw_any (h : Mxw col k w g n u N T seed A cT b c (t.map (plOf (0 : Int) home))) (hL : LP home t) {e : Nat} (he : Emp t e) :
    Calls Try.prog 52 #[.pointer (some ⟨g, 0, none⟩), .string s, .int .i64 (home s : Int)] w (FindOutw t home s N w) := by
  have hN := h.nN
  have hn := h.n1
  have hlen : t.length = N := by have := h.len; simpa using this
  have heN : e < N := by rw [← hlen]; exact (List.getElem?_eq_some_iff.1 he).1
  have hsN : home s < N := by rw [← hlen]; exact hL.hm s
  have x4 := h.c4
  obtain ⟨hcp, hcm⟩ := h.cap
  have hN6 : N ≤ 16384 := by omega
  have hN0 : 0 < N := by omega
  clear hN
  go_enter Try.func52, Try.ntmps52
  go_wp2
  go_loopw [8] (fun iv wr => ∃ i : Nat, i < N ∧ iv = .int .i64 (i : Int) ∧ dst N (home s) i ≤ dst N (home s) e ∧ (∀ q, q < N → dst N (home s) q < dst N (home s) i → ∃ x, t[q]? = some (some x) ∧ x.1 ≠ s) ∧ wr = w) (fun iv _ => dst N (home s) e - dst N (home s) (intOf iv).toNat)
  case atStart => exact ⟨home s, hsN, rfl, by rw [dst_self]; exact Nat.zero_le _, fun q _ h0 => by rw [dst_self] at h0; exact absurd h0 (Nat.not_lt_zero _), rfl⟩
  case round =>
    obtain ⟨i, hi, rfl, hd, hq, hwr⟩ := hrel
    subst hwr
    have hil : i < t.length := by omega
    rcases occ_or hil with ⟨⟨kk, v⟩, ho⟩ | hem
    · have hr : (t.map (plOf (0 : Int) home))[i]? = some (plOf (0 : Int) home (some (kk, v))) := by rw [List.getElem?_map, ho]; rfl
      obtain ⟨y0, _, y2, _, _⟩ := h.at_ hr
      have y0' : wr.cell? ⟨b, i * 4, none⟩ = some (.bool true) := y0
      have y2' : wr.cell? ⟨b, i * 4 + 2, none⟩ = some (.string kk) := y2
      have hiN : (i : Int) < (N : Int) := by omega
      have hie : i ≠ e := fun e' => by subst e'; unfold Emp at he; rw [he] at ho; cases ho
      have hdlt : dst N (home s) i < dst N (home s) e := by
        rcases Nat.lt_or_ge (dst N (home s) i) (dst N (home s) e) with h1 | h1
        · exact h1
        · exact absurd (dst_inj hsN hi heN (by omega)) hie
      have hnx := dst_next hsN hi
      have hde := dst_lt hsN heN
      rw [if_neg (by omega)] at hnx
      have hnl : (i + 1) % N < N := next_lt hN0 i
      clear y0 y2 hr hil
      by_cases hk : kk = s
      · have hb : (kk.toList == s.toList) = true := by rw [str_eq_at]; exact decide_eq_true hk
        have HF := Lib.hid (show Foundw t home s i true from .inl ⟨rfl, v, by rw [ho, hk]⟩)
        clear hk ho hq hnx hdlt hd hL he h
        go_wp2
        go_ret2
        exact ⟨i, true, rfl, hi, HF.out, rfl⟩
      · have hb : (kk.toList == s.toList) = false := by rw [str_eq_at]; exact decide_eq_false hk
        have HN := nextw_any h hi rfl
        have HQ := Lib.hid (show ∀ q, q < N → dst N (home s) q < dst N (home s) ((i + 1) % N) → ∃ x, t[q]? = some (some x) ∧ x.1 ≠ s from fun q h1 h2 => by
          rcases Nat.lt_or_ge (dst N (home s) q) (dst N (home s) i) with h3 | h3
          · exact hq q h1 h3
          · obtain rfl := dst_inj hsN h1 hi (by omega)
            exact ⟨_, ho, hk⟩)
        have HK := Lib.hid hk
        have HM := Lib.hid (show dst N (home s) ((i + 1) % N) ≤ dst N (home s) e by omega)
        have HM2 := Lib.hid (show dst N (home s) e - dst N (home s) ((i + 1) % N) < dst N (home s) e - dst N (home s) i by omega)
        clear hk ho hq hL he h hd hdlt hnx hde hie
        generalize (i + 1) % N = i1 at *
        go_wp2_with fail
        refine HN.mono ?_
        rintro r w1 ⟨rfl, hw⟩
        subst hw
        go_wp2
        go_roundw
        case rel => exact ⟨i1, hnl, rfl, HM.out, HQ.out, (by first | rfl | trivial)⟩
        case measure => simpa [intOf] using HM2.out
    · have hr : (t.map (plOf (0 : Int) home))[i]? = some (plOf (0 : Int) home none) := by
        have hem' : t[i]? = some none := hem
        rw [List.getElem?_map, hem']; rfl
      obtain ⟨y0, _, _, _, _⟩ := h.at_ hr
      have y0' : wr.cell? ⟨b, i * 4, none⟩ = some (.bool false) := y0
      have hiN : (i : Int) < (N : Int) := by omega
      have HF := Lib.hid (show Foundw t home s i false from .inr ⟨rfl, hem, fun q h1 h2 => by
        rw [hlen] at h1 h2
        obtain ⟨x, hx, _⟩ := hq q h1 h2
        exact ⟨x, hx⟩, hL.miss hem fun q h1 h2 v' hv => by
        rw [hlen] at h1 h2
        obtain ⟨x, hx, hne⟩ := hq q h1 h2
        rw [hv] at hx; injection hx with hx; injection hx with hx; subst hx; exact hne rfl⟩)
      clear y0 hr hil hem hq hL he h hd
      go_wp2
      go_ret2
      exact ⟨i, false, rfl, hi, HF.out, rfl⟩
end
end Go.Proofs.Ytgkokglngpbamaa

/- The program's tables of uint64 values: a deletion, which moves later elements back. Conditions: none beyond those typed. -/
namespace Go.Proofs.Ytgkokglngpbamaa
open Go.ChangeShapes Go.WideShapes Go.ChangeAt Go.RowKit
set_option linter.unusedVariables false
set_option linter.unusedSimpArgs false
set_option maxRecDepth 100000

section
variable {P : Nat → Prop} {col col' : Col} {w w' W W' : World} {k g n u N : Nat} {T : List Int} {seed : Int} {A : Option Addr} {cT b c : Nat} {t t0 : Tb Int} {home : ByteArray → Nat} {s kk : ByteArray} {m : MSt Int} {e hh j i0 : Nat} {x : Option (ByteArray × Int)} {v : Int}
/-- Amid a deletion: the gap at hh still holds what was there. -/
structure CutAtw (col : Col) (k : Nat) (w : World) (g n u N : Nat) (T : List Int) (seed : Int) (A : Option Addr) (cT b c : Nat) (home : ByteArray → Nat) (m : MSt Int) (e : Nat) (W : World) (hh j : Nat) (t : Tb Int) (x : Option (ByteArray × Int)) : Prop where
  len : t.length = N
  lph : LPh home t hh j
  rel : RelT t m
  emp : Emp t e
  ne : e ≠ hh
  dd : dst N hh j < dst N hh e
  mx : Mxw col k W g n u N T seed A cT b c ((t.set hh x).map (plOf (0 : Int) home))
  st : StepC (fun d => d = k + 1) col w col W
theorem CutAtw.facts (h : CutAtw col k w g n u N T seed A cT b c home m e W hh j t x) : hh < N ∧ j < N ∧ e < N ∧ (j + 1) % N < N ∧ (j + 1) % N ≠ hh ∧ dst N hh ((j + 1) % N) = dst N hh j + 1 ∧ ∀ y, t[(j + 1) % N]? = some y → ((t.set hh x).map (plOf (0 : Int) home))[(j + 1) % N]? = some (plOf (0 : Int) home y) := by
  have hl := h.len
  have h1 : hh < N := by rw [← hl]; exact (List.getElem?_eq_some_iff.1 h.lph.gap).1
  have h2 : j < N := by rw [← hl]; exact h.lph.jl
  have h3 : e < N := by rw [← hl]; exact (List.getElem?_eq_some_iff.1 h.emp).1
  have h4 : (j + 1) % N < N := next_lt (by omega) j
  have h5 := dst_next h1 h2
  have h6 := dst_lt h1 h3
  have h7 := h.dd
  rw [if_neg (by omega)] at h5
  have h8 : (j + 1) % N ≠ hh := fun e' => by rw [e', dst_self] at h5; omega
  refine ⟨h1, h2, h3, h4, h8, h5, fun y hy => ?_⟩
  rw [List.getElem?_map, List.getElem?_set_ne (fun e' => h8 e'.symm), hy]; rfl
theorem CutAtw.stay (h : CutAtw col k w g n u N T seed A cT b c home m e W hh j t x) (ho : t[(j + 1) % N]? = some (some (kk, v))) (hno : ¬ dst N hh ((j + 1) % N) ≤ dst N (home kk) ((j + 1) % N)) : CutAtw col k w g n u N T seed A cT b c home m e W hh ((j + 1) % N) t x := by
  obtain ⟨h1, h2, h3, h4, h5, h6, _⟩ := h.facts
  have hl := h.len
  have hm := h.lph.hm kk
  have hdd := h.dd
  have h7 := dst_lt h1 h3
  have hp := h.lph
  rw [hl] at hm
  have hs : LPh home t hh ((j + 1) % N) := by
    have := hp.stay (k := kk) (v := v) (by rw [hl]; omega) (by rw [hl]; exact ho) (by rw [hl]; exact fun hlt => hno ((dst_on hm h1 h4 h5.symm).2 hlt))
    rwa [hl] at this
  refine ⟨hl, hs, h.rel, h.emp, h.ne, ?_, h.mx, h.st⟩
  rcases Nat.lt_or_ge (dst N hh ((j + 1) % N)) (dst N hh e) with h8 | h8
  · exact h8
  · have e' := dst_inj h1 h4 h3 (by omega)
    have := h.emp
    unfold Emp at this
    rw [← e', ho] at this; cases this
theorem CutAtw.move (h : CutAtw col k w g n u N T seed A cT b c home m e W hh j t x) (ho : t[(j + 1) % N]? = some (some (kk, v))) (hyes : dst N hh ((j + 1) % N) ≤ dst N (home kk) ((j + 1) % N))
    (hW : Mxw col k W' g n u N T seed A cT b c (((t.set hh x).map (plOf (0 : Int) home)).set hh (plOf (0 : Int) home (some (kk, v))))) (hS : StepC (fun d => d = k + 1) col W col W') :
    ∃ t2 x2, CutAtw col k w g n u N T seed A cT b c home m e W' ((j + 1) % N) ((j + 1) % N) t2 x2 := by
  obtain ⟨h1, h2, h3, h4, h5, h6, _⟩ := h.facts
  have hl := h.len
  have hm := h.lph.hm kk
  have hdd := h.dd
  have h7 := dst_lt h1 h3
  have hp := h.lph
  rw [hl] at hm
  have hei : e ≠ (j + 1) % N := fun e' => by
    have := h.emp
    unfold Emp at this
    rw [e', ho] at this; cases this
  have hhl : hh < t.length := by omega
  have hil : (j + 1) % N < (t.set hh (some (kk, v))).length := by rw [List.length_set]; omega
  have hs : LPh home ((t.set hh (some (kk, v))).set ((j + 1) % N) none) ((j + 1) % N) ((j + 1) % N) := by
    have := hp.move (k := kk) (v := v) (by rw [hl]; omega) (by rw [hl]; exact ho) (by rw [hl]; exact (dst_on hm h1 h4 h5.symm).1 hyes)
    rwa [hl] at this
  refine ⟨_, some (kk, v), by simp [hl], hs, h.rel.move h.lph.gap ho, ?_, hei, by rw [dst_self]; exact dst_pos h4 h3 hei.symm, ?_, h.st.trans hS⟩
  · unfold Emp
    rw [tb_set_at hil, if_neg hei.symm, tb_set_at hhl, if_neg h.ne.symm]; exact h.emp
  · have e1 : ((t.set hh (some (kk, v))).set ((j + 1) % N) none).set ((j + 1) % N) (some (kk, v)) = t.set hh (some (kk, v)) := by
      rw [List.set_set]
      exact list_set_self (by rw [tb_set_at hhl, if_neg h5.symm]; exact ho)
    rw [e1]
    rw [← List.map_set, List.set_set] at hW
    exact hW
/-- What a deletion leaves. -/
def CutOutw (col : Col) (k : Nat) (w : World) (g n u N : Nat) (T : List Int) (seed : Int) (A : Option Addr) (cT b c : Nat) (home : ByteArray → Nat) (m : MSt Int) (r : Ending) (w' : World) : Prop :=
  r = .returned (.tuple #[]) ∧ ∃ t, Mxw col k w' g n u N T seed A cT b c (t.map (plOf (0 : Int) home)) ∧ LP home t ∧ RelT t m ∧ StepC (fun d => d = k + 1) col w col w'
theorem CutAtw.stop (h : CutAtw col k w g n u N T seed A cT b c home m e W hh j t x) (ho : Emp t ((j + 1) % N))
    (hW : Mxw col k W' g n u N T seed A cT b c (((t.set hh x).map (plOf (0 : Int) home)).set hh (plOf (0 : Int) home none))) (hS : StepC (fun d => d = k + 1) col W col W') : CutOutw col k w g n u N T seed A cT b c home m (.returned (.tuple #[])) W' := by
  have hl := h.len
  refine ⟨rfl, t, ?_, h.lph.stop (by rw [hl]; exact ho), h.rel, h.st.trans hS⟩
  rw [← List.map_set, List.set_set, list_set_self h.lph.gap] at hW
  exact hW
set_option maxHeartbeats 4000000 in
theorem emptyw_any (h : Mxw col k w g n u N T seed A cT b c (t0.map (plOf (0 : Int) home))) (htd : Tidy col w) (hL : LP home t0) (R : RelT t0 m) (G : GoodM m) (hmn : m.l.length < N) (hi : t0[i0]? = some (some (s, v))) :
    Calls Try.prog 55 #[.pointer (some ⟨g, 0, none⟩), .int .i64 (i0 : Int)] w (CutOutw col k w g n u N T seed A cT b c home (m.del s)) := by
  have hN := h.nN
  have hn := h.n1
  have hlen : t0.length = N := by have := h.len; simpa using this
  have hil : i0 < t0.length := (List.getElem?_eq_some_iff.1 hi).1
  have hi0 : i0 < N := by omega
  obtain ⟨e, he⟩ := R.room G hL (by omega)
  have heN : e < N := by rw [← hlen]; exact (List.getElem?_eq_some_iff.1 he).1
  have hne : e ≠ i0 := fun e' => by subst e'; unfold Emp at he; rw [hi] at he; cases he
  have HNx := fun r hr => nextw_any h hi0 (r := r) hr
  have hrow : (t0.set i0 none).set i0 (some (s, v)) = t0 := by rw [List.set_set]; exact list_set_self hi
  have C0 : CutAtw col k w g n u N T seed A cT b c home (m.del s) e w i0 i0 (t0.set i0 none) (some (s, v)) :=
    ⟨by rw [List.length_set]; exact hlen, hL.cut ⟨_, hi⟩, R.cut G hL hi, by unfold Emp; rw [tb_set_at hil, if_neg hne.symm]; exact he, hne, by rw [dst_self]; exact dst_pos hi0 heN hne.symm, by rw [hrow]; exact h, StepC.refl htd⟩
  have hN6 : N ≤ 16384 := by omega
  have hN0 : 0 < N := by omega
  obtain ⟨i1, hi1⟩ : ∃ i1, (i0 + 1) % N = i1 := ⟨_, rfl⟩
  replace HNx := HNx i1 hi1
  have HI1 := Lib.hid hi1
  clear hN h hL R G hmn hi hlen hil hrow he hi1
  go_enter Try.func55, Try.ntmps55
  go_wp2_with fail
  refine HNx.mono ?_
  rintro r w1 ⟨rfl, hw⟩
  subst hw
  go_wp2
  go_loopw [1, 4] (fun hv iv wr => ∃ (hh j i1 : Nat) (t : Tb Int) (x : Option (ByteArray × Int)), hv = .int .i64 (hh : Int) ∧ iv = .int .i64 (i1 : Int) ∧ i1 = (j + 1) % N ∧ CutAtw col k w g n u N T seed A cT b c home (m.del s) e wr hh j t x) (fun _ iv _ => dst N (intOf iv).toNat e)
  case atStart => exact ⟨i0, i0, i1, _, _, rfl, rfl, HI1.out.symm, C0⟩
  case round =>
    clear C0 HNx hi0 hne HI1
    obtain ⟨hh, j, i1, t, x, rfl, rfl, hi1, C⟩ := hrel
    obtain ⟨h1, h2, h3, h4, h5, h6, h7⟩ := C.facts
    have M := C.mx
    have x4 := M.c4
    obtain ⟨hcp, hcm⟩ := M.cap
    have tdr := C.st.tidy
    have hhl : hh < t.length := by rw [C.len]; exact h1
    obtain ⟨z0, z1, z2, z3, fz⟩ := M.at_ (i := hh) (r := plOf (0 : Int) home x) (by rw [List.getElem?_map, tb_set_at hhl, if_pos rfl]; rfl)
    have hiI : (hh : Int) < (N : Int) := by omega
    have f0 := fz (hh * 4)
    have f1 := fz (hh * 4 + 1)
    have f2 := fz (hh * 4 + 2)
    have f3 := fz (hh * 4 + 3)
    have hlt : (j + 1) % N < t.length := by rw [C.len]; exact h4
    have hst := fun hne => dst_step (N := N) (e := e) h4 h3 hne
    have HI := Lib.hid hi1
    rw [← hi1] at h4 h5 h6 h7 hlt hst
    have h4I : (i1 : Int) < (N : Int) := by omega
    rcases occ_or hlt with ⟨⟨kk, v1⟩, ho⟩ | hem
    · obtain ⟨y0, y1, y2, y3, _⟩ := M.at_ (i := i1) (r := plOf (0 : Int) home (some (kk, v1))) (h7 _ ho)
      have hie : i1 ≠ e := fun e' => by
        have := C.emp
        unfold Emp at this
        rw [← e', ho] at this; cases this
      have hkN : home kk < N := by rw [← C.len]; exact C.lph.hm kk
      have y0' : wr.cell? ⟨b, i1 * 4, none⟩ = some (.bool true) := y0
      have y1' : wr.cell? ⟨b, i1 * 4 + 1, none⟩ = some (.int .i64 (home kk : Int)) := y1
      have y2' : wr.cell? ⟨b, i1 * 4 + 2, none⟩ = some (.string kk) := y2
      have y3' : wr.cell? ⟨b, i1 * 4 + 3, none⟩ = some ((fun z : Int => Value.int .u64 z) v1) := y3
      have S1 := Lib.hid (stepsw_any M hkN h4)
      have S2 := Lib.hid (fun q => stepsw_any (M.drewN tdr q) h1 h4)
      have hms := hst hie
      obtain ⟨i2, hi2⟩ : ∃ i2, (i1 + 1) % N = i2 := ⟨_, rfl⟩
      rw [hi2] at hms
      have hms2 := Lib.hid (show dst N i2 e < dst N i1 e by omega)
      have HI2 := Lib.hid hi2
      have HX := Lib.hid (fun (hge : dst N hh i1 ≤ dst N (home kk) i1) (q : Nat) => (show ∃ t2 x2, CutAtw col k w g n u N T seed A cT b c home (m.del s) e (((((wr.drewN q).setCell ⟨b, hh * 4, none⟩ (.bool true)).setCell ⟨b, hh * 4 + 1, none⟩ (.int .i64 (home kk : Int))).setCell ⟨b, hh * 4 + 2, none⟩ (.string kk)).setCell ⟨b, hh * 4 + 3, none⟩ ((fun z : Int => Value.int .u64 z) v1)) i1 i1 t2 x2 from by
        obtain ⟨M2, s2⟩ := (M.drewN tdr q).put (tdr.size (Nat.le_refl _)) h1 (plOf (0 : Int) home (some (kk, v1)))
        have := C.move (kk := kk) (v := v1) (by rw [← hi1]; exact ho) (by rw [← hi1]; exact hge) M2 ((StepC.below tdr (below_drewN (Below.refl _ _) q)).trans s2)
        rwa [← hi1] at this))
      have HY := Lib.hid (fun (hge : ¬ dst N hh i1 ≤ dst N (home kk) i1) (q : Nat) => (show CutAtw col k w g n u N T seed A cT b c home (m.del s) e (wr.drewN q) hh i1 t x from by
        have := C.stay (kk := kk) (v := v1) (by rw [← hi1]; exact ho) (by rw [← hi1]; exact hge)
        rw [← hi1] at this
        exact ⟨this.len, this.lph, this.rel, this.emp, this.ne, this.dd, M.drewN tdr q, C.st.trans (StepC.below tdr (below_drewN (Below.refl _ _) q))⟩))
      clear y0 y1 y2 y3 C ho hie hms hst h6 h7 h5 hi1 hi2
      by_cases hge : dst N hh i1 ≤ dst N (home kk) i1
      · have HXg := Lib.hid (HX.out hge)
        have HN2 := Lib.hid (fun q => (HXg.out q).elim fun t2 h => h.elim fun x2 C2 => nextw_any C2.mx h4 HI2.out)
        clear HY HX
        generalize dst N hh i1 = d2 at *
        generalize dst N (home kk) i1 = d1 at *
        have hgI : (d2 : Int) ≤ (d1 : Int) := by omega
        clear hge
        go_wp2_with fail
        refine S1.out.mono ?_
        rintro r w2 ⟨rfl, jq, rfl⟩
        go_wp2_with fail
        refine (S2.out _).mono ?_
        rintro r w2 ⟨rfl, jq2, rfl⟩
        clear S1 S2
        go_wp2
        go_region
        go_wp2_with fail
        refine (HN2.out _).mono ?_
        rintro r w3 ⟨rfl, hw⟩
        subst hw
        go_wp2
        go_roundw
        case rel => exact (HXg.out _).elim fun t2 h => h.elim fun x2 C2 => ⟨i1, i1, i2, t2, x2, rfl, rfl, HI2.out.symm, C2⟩
        case measure => simpa [intOf] using hms2.out
      · have HYg := Lib.hid (HY.out hge)
        clear HX HY
        generalize dst N hh i1 = d2 at *
        generalize dst N (home kk) i1 = d1 at *
        have hgI : ¬ (d2 : Int) ≤ (d1 : Int) := by omega
        clear hge
        go_wp2_with fail
        refine S1.out.mono ?_
        rintro r w2 ⟨rfl, jq, rfl⟩
        go_wp2_with fail
        refine (S2.out _).mono ?_
        rintro r w2 ⟨rfl, jq2, rfl⟩
        clear S1 S2
        have MD := M.drewN tdr (jq + jq2)
        go_wp2_with fail
        refine (nextw_any MD h4 HI2.out).mono ?_
        rintro r w3 ⟨rfl, hw⟩
        subst hw
        go_wp2
        go_roundw
        case rel => exact ⟨hh, i1, i2, t, x, rfl, rfl, HI2.out.symm, HYg.out _⟩
        case measure => simpa [intOf] using hms2.out
    · have hem' : t[i1]? = some none := hem
      obtain ⟨y0, _⟩ := M.at_ (i := i1) (r := plOf (0 : Int) home none) (h7 _ hem')
      have y0' : wr.cell? ⟨b, i1 * 4, none⟩ = some (.bool false) := y0
      have HX := Lib.hid (show CutOutw col k w g n u N T seed A cT b c home (m.del s) (.returned (.tuple #[])) ((((wr.setCell ⟨b, hh * 4, none⟩ (.bool false)).setCell ⟨b, hh * 4 + 1, none⟩ (.int .i64 0)).setCell ⟨b, hh * 4 + 2, none⟩ (.string ⟨#[]⟩)).setCell ⟨b, hh * 4 + 3, none⟩ (.int .u64 0)) from by
        obtain ⟨M2, s2⟩ := M.put tdr h1 (plOf (0 : Int) home none)
        exact C.stop (by rw [← hi1]; exact hem) M2 s2)
      clear y0 C hem hem' hst h6 h7 h5 hi1
      go_wp2
      go_end0
      exact HX.out
end
end Go.Proofs.Ytgkokglngpbamaa
