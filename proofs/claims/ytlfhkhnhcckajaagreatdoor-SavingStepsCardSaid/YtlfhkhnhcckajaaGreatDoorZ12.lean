/- Words laid together in one text. Conditions: none beyond those typed. -/
import Derived.Test.YtlfhkhnhcckajaaGreatDoorZ10
import Derived.Lib.TrailingZeros
import Derived.Test.YtlfhkhnhcckajaaGreatDoorZ09
import Derived.Laws.Bits64b
import Derived.Laws.BitsAllLaws
import Derived.Laws.ShiftsVarLaws
import Derived.Lib.Zigzag
/- The program's lists as plain data: a ring of places, the anchor at -1; a bit for each number. Conditions: none beyond those typed. -/
namespace Go.Proofs.YtlfhkhnhcckajaaGreatDoor
set_option linter.unusedVariables false
set_option linter.unusedSimpArgs false

/-- A place: the number before it, the number behind it, its value. -/
abbrev Pn (α : Type) := Int × Int × α
section
variable {α : Type}
def nN (P : List (Pn α)) (z : Int) : Option Int := (P[(z + 1).toNat]?).map fun q => q.2.1
def pN (P : List (Pn α)) (z : Int) : Option Int := (P[(z + 1).toNat]?).map fun q => q.1
def vN (P : List (Pn α)) (k : Nat) : Option α := (P[k + 1]?).map fun q => q.2.2
def joinN (P : List (Pn α)) (a b : Int) : List (Pn α) := P.modify (a + 1).toNat fun q => (q.1, b, q.2.2)
def joinP (P : List (Pn α)) (a b : Int) : List (Pn α) := (joinN P a b).modify (b + 1).toNat fun q => (a, q.2)
/-- The ring: the anchor, the nodes in order, the anchor. -/
def rg (ns : List Nat) : Nat → Int
  | 0 => -1
  | i + 1 => match ns[i]? with | some k => (k : Int) | none => -1
variable {P : List (Pn α)} {ns : List Nat} {a b z : Int} {i j k x : Nat}
theorem modN_set {β : Type} {l : List β} {j : Nat} {q : β} {f : β → β} (h : l[j]? = some q) : l.modify j f = l.set j (f q) := by
  apply List.ext_getElem?
  intro i
  rw [List.getElem?_modify, List.getElem?_set]
  by_cases e : j = i
  · subst e
    rw [h, if_pos rfl, if_pos (List.getElem?_eq_some_iff.1 h).1]
    simp
  · rw [if_neg e]
    cases l[i]? <;> simp [e]
theorem join_len : (joinP P a b).length = P.length := by simp [joinP, joinN]
theorem nN_join (ha : -1 ≤ a) (hz : -1 ≤ z) : nN (joinP P a b) z = if z = a then (nN P z).map (fun _ => b) else nN P z := by
  unfold nN joinP joinN
  rw [List.getElem?_modify, List.getElem?_modify]
  by_cases h : z = a
  · subst h
    rw [if_pos rfl]
    cases P[(z + 1).toNat]? with
    | none => simp
    | some q => simp; split <;> rfl
  · rw [if_neg h]
    cases P[(z + 1).toNat]? with
    | none => simp
    | some q => simp [show ¬ (a + 1).toNat = (z + 1).toNat by omega]; split <;> rfl
theorem pN_join (hb : -1 ≤ b) (hz : -1 ≤ z) : pN (joinP P a b) z = if z = b then (pN P z).map (fun _ => a) else pN P z := by
  unfold pN joinP joinN
  rw [List.getElem?_modify, List.getElem?_modify]
  by_cases h : z = b
  · subst h
    rw [if_pos rfl]
    cases P[(z + 1).toNat]? with
    | none => simp
    | some q => simp
  · rw [if_neg h]
    cases P[(z + 1).toNat]? with
    | none => simp
    | some q => simp [show ¬ (b + 1).toNat = (z + 1).toNat by omega]; split <;> rfl
theorem vN_join : vN (joinP P a b) k = vN P k := by
  unfold vN joinP joinN
  rw [List.getElem?_modify, List.getElem?_modify]
  cases P[k + 1]? with
  | none => simp
  | some q => simp; split <;> split <;> rfl
theorem nN_app {q : Pn α} {u : Int} (h : nN P z = some u) : nN (P ++ [q]) z = some u := by
  unfold nN at h ⊢
  obtain ⟨y, hy, e⟩ := Option.map_eq_some_iff.1 h
  rw [List.getElem?_append_left (List.getElem?_eq_some_iff.1 hy).1, hy]
  exact congrArg some e
theorem pN_app {q : Pn α} {u : Int} (h : pN P z = some u) : pN (P ++ [q]) z = some u := by
  unfold pN at h ⊢
  obtain ⟨y, hy, e⟩ := Option.map_eq_some_iff.1 h
  rw [List.getElem?_append_left (List.getElem?_eq_some_iff.1 hy).1, hy]
  exact congrArg some e
theorem vN_app {q : Pn α} {u : α} (h : vN P k = some u) : vN (P ++ [q]) k = some u := by
  unfold vN at h ⊢
  obtain ⟨y, hy, e⟩ := Option.map_eq_some_iff.1 h
  rw [List.getElem?_append_left (List.getElem?_eq_some_iff.1 hy).1, hy]
  exact congrArg some e
theorem nN_lt (hz : -1 ≤ z) (h : (z + 1).toNat < P.length) : ∃ u, nN P z = some u := ⟨_, by unfold nN; rw [List.getElem?_eq_getElem h]; rfl⟩
theorem pN_lt (hz : -1 ≤ z) (h : (z + 1).toNat < P.length) : ∃ u, pN P z = some u := ⟨_, by unfold pN; rw [List.getElem?_eq_getElem h]; rfl⟩
theorem nN_set {q : Pn α} (hz : -1 ≤ z) (hk : z ≠ (k : Int)) : nN (P.set (k + 1) q) z = nN P z := by
  unfold nN; rw [List.getElem?_set, if_neg (by omega)]
theorem pN_set {q : Pn α} (hz : -1 ≤ z) (hk : z ≠ (k : Int)) : pN (P.set (k + 1) q) z = pN P z := by
  unfold pN; rw [List.getElem?_set, if_neg (by omega)]
theorem vN_set {q : Pn α} (hk : j ≠ k) : vN (P.set (k + 1) q) j = vN P j := by
  unfold vN; rw [List.getElem?_set, if_neg (by omega)]
/-- The value of a place is written. -/
theorem nN_val {v : α} : nN (P.modify j fun q => (q.1, q.2.1, v)) z = nN P z := by
  unfold nN; rw [List.getElem?_modify]
  cases P[(z + 1).toNat]? with
  | none => simp
  | some q => simp; split <;> rfl
theorem pN_val {v : α} : pN (P.modify j fun q => (q.1, q.2.1, v)) z = pN P z := by
  unfold pN; rw [List.getElem?_modify]
  cases P[(z + 1).toNat]? with
  | none => simp
  | some q => simp; split <;> rfl
theorem vN_val {v : α} : vN (P.modify (j + 1) fun q => (q.1, q.2.1, v)) k = if k = j then (vN P k).map (fun _ => v) else vN P k := by
  unfold vN; rw [List.getElem?_modify]
  by_cases h : k = j
  · subst h
    rw [if_pos rfl]
    cases P[k + 1]? with
    | none => simp
    | some q => simp
  · rw [if_neg h]
    cases P[k + 1]? with
    | none => simp
    | some q => simp [show ¬ j = k by omega]
theorem rg_ge (ns : List Nat) (i : Nat) : -1 ≤ rg ns i := by
  cases i with
  | zero => simp [rg]
  | succ i => simp only [rg]; split <;> omega
theorem rg_at (h : ns[i]? = some k) : rg ns (i + 1) = (k : Int) := by simp only [rg]; rw [h]
theorem rg_end (h : ns.length < i) : rg ns i = -1 := by
  cases i with
  | zero => omega
  | succ i => simp only [rg]; rw [List.getElem?_eq_none (by omega)]
theorem rg_inj (nd : ns.Nodup) (hi : i ≤ ns.length) (hj : j ≤ ns.length) (h : rg ns i = rg ns j) : i = j := by
  match i, j, hi, hj, h with
  | 0, 0, _, _, _ => rfl
  | 0, j + 1, _, hj, h => rw [rg_at (List.getElem?_eq_getElem (show j < ns.length by omega))] at h; simp [rg] at h
  | i + 1, 0, hi, _, h => rw [rg_at (List.getElem?_eq_getElem (show i < ns.length by omega))] at h; simp [rg] at h
  | i + 1, j + 1, hi, hj, h =>
    rw [rg_at (List.getElem?_eq_getElem (show i < ns.length by omega)), rg_at (List.getElem?_eq_getElem (show j < ns.length by omega))] at h
    have h2 : ns[i] = ns[j] := by omega
    have := (List.getElem_inj nd).1 h2
    omega
theorem rg_inj2 (nd : ns.Nodup) (hi : i ≤ ns.length) (hj : j ≤ ns.length) (h : rg ns (i + 1) = rg ns (j + 1)) : i = j := by
  rcases Nat.lt_or_ge i ns.length with h1 | h1
  · rcases Nat.lt_or_ge j ns.length with h2 | h2
    · have := rg_inj nd (show i + 1 ≤ ns.length by omega) (show j + 1 ≤ ns.length by omega) h
      omega
    · rw [rg_end (show ns.length < j + 1 by omega), rg_at (List.getElem?_eq_getElem h1)] at h; omega
  · rcases Nat.lt_or_ge j ns.length with h2 | h2
    · rw [rg_end (show ns.length < i + 1 by omega), rg_at (List.getElem?_eq_getElem h2)] at h; omega
    · omega
theorem rg_no (hx : x ∉ ns) (i : Nat) : rg ns i ≠ (x : Int) := by
  cases i with
  | zero => show (-1 : Int) ≠ _; omega
  | succ i =>
    cases h : ns[i]? with
    | none => rw [rg_end (by have := List.getElem?_eq_none_iff.1 h; omega)]; omega
    | some k =>
      rw [rg_at h]
      have hk := List.mem_of_getElem? h
      intro e
      have e2 : k = x := by omega
      subst e2
      exact hx hk
theorem rg_ins (hi : i ≤ ns.length) (j : Nat) : rg (ns.take i ++ x :: ns.drop i) j = if j ≤ i then rg ns j else if j = i + 1 then (x : Int) else rg ns (j - 1) := by
  have hlt : (ns.take i).length = i := by rw [List.length_take]; omega
  cases j with
  | zero => simp [rg]
  | succ j =>
    rcases Nat.lt_trichotomy j i with h | h | h
    · rw [if_pos (by omega)]
      simp only [rg]
      rw [List.getElem?_append_left (by omega), List.getElem?_take, if_pos h]
    · subst h
      rw [if_neg (by omega), if_pos rfl]
      simp only [rg]
      rw [List.getElem?_append_right (by omega), hlt, Nat.sub_self]
      rfl
    · rw [if_neg (by omega), if_neg (by omega)]
      obtain ⟨q, rfl⟩ : ∃ q, j = i + 1 + q := ⟨j - i - 1, by omega⟩
      rw [show i + 1 + q + 1 - 1 = (i + q) + 1 by omega]
      simp only [rg]
      rw [List.getElem?_append_right (by omega), hlt, show i + 1 + q - i = q + 1 by omega, List.getElem?_cons_succ, List.getElem?_drop]
theorem rg_rem (hi : i < ns.length) (j : Nat) : rg (ns.take i ++ ns.drop (i + 1)) j = if j ≤ i then rg ns j else rg ns (j + 1) := by
  have hlt : (ns.take i).length = i := by rw [List.length_take]; omega
  cases j with
  | zero => simp [rg]
  | succ j =>
    rcases Nat.lt_or_ge j i with h | h
    · rw [if_pos (by omega)]
      simp only [rg]
      rw [List.getElem?_append_left (by omega), List.getElem?_take, if_pos h]
    · rw [if_neg (by omega)]
      simp only [rg]
      rw [List.getElem?_append_right (by omega), hlt, List.getElem?_drop, show i + 1 + (j - i) = j + 1 by omega]
end

/-- Bits of words: number j has bit j % 64 of word j / 64. -/
def hasB (U : List Nat) (j : Nat) : Bool := (U.getD (j / 64) 0).testBit (j % 64)
def putB (U : List Nat) (x : Nat) : List Nat := U.set (x / 64) (U.getD (x / 64) 0 ||| 2 ^ (x % 64))
def delB (U : List Nat) (x : Nat) : List Nat := U.set (x / 64) (U.getD (x / 64) 0 &&& (18446744073709551615 - 2 ^ (x % 64)))
theorem pow_lt64 {k : Nat} (h : k < 64) : 2 ^ k < 18446744073709551616 := by
  have : 2 ^ k < 2 ^ 64 := Nat.pow_lt_pow_right (by decide) h
  simpa using this
theorem and_pow (x i : Nat) : x &&& 2 ^ i = if x.testBit i then 2 ^ i else 0 := by
  apply Nat.eq_of_testBit_eq
  intro j
  rw [Nat.testBit_and, Nat.testBit_two_pow]
  by_cases h : i = j
  · subst h
    cases hx : x.testBit i
    · simp
    · simp [Nat.testBit_two_pow]
  · rw [decide_eq_false h, Bool.and_false]
    cases x.testBit i
    · simp
    · simp [Nat.testBit_two_pow, h]
theorem inv_bit {u i : Nat} (hu : u < 18446744073709551616) : (18446744073709551615 - u).testBit i = (decide (i < 64) && !u.testBit i) := by
  have := Nat.testBit_two_pow_sub_succ (x := u) (n := 64) (by simpa using hu) i
  rw [← this]
  congr 1
  simp
theorem getD_lt {U : List Nat} (hU : ∀ u ∈ U, u < 18446744073709551616) (j : Nat) : U.getD j 0 < 18446744073709551616 := by
  rw [List.getD_eq_getElem?_getD]
  cases h : U[j]? with
  | none => simp
  | some u => exact hU u (List.mem_of_getElem? h)
theorem getD_set (U : List Nat) (i j u : Nat) (hi : i < U.length) : (U.set i u).getD j 0 = if j = i then u else U.getD j 0 := by
  rw [List.getD_eq_getElem?_getD, List.getD_eq_getElem?_getD, List.getElem?_set]
  by_cases h : j = i
  · subst h; rw [if_pos rfl, if_pos rfl, if_pos hi]; rfl
  · rw [if_neg h, if_neg (fun e => h e.symm)]
theorem hasB_put {U : List Nat} {x j : Nat} (hx : x / 64 < U.length) : hasB (putB U x) j = (hasB U j || decide (j = x)) := by
  unfold hasB putB
  rw [getD_set _ _ _ _ hx]
  by_cases h : j / 64 = x / 64
  · rw [if_pos h, Nat.testBit_or, Nat.testBit_two_pow, h]
    congr 1
    exact decide_eq_decide.2 ⟨fun e => by omega, fun e => by omega⟩
  · rw [if_neg h, show decide (j = x) = false from decide_eq_false fun e => h (by rw [e]), Bool.or_false]
theorem hasB_del {U : List Nat} {x j : Nat} (hx : x / 64 < U.length) : hasB (delB U x) j = (hasB U j && !decide (j = x)) := by
  unfold hasB delB
  rw [getD_set _ _ _ _ hx]
  have hx64 : x % 64 < 64 := Nat.mod_lt _ (by decide)
  have hj64 : j % 64 < 64 := Nat.mod_lt _ (by decide)
  by_cases h : j / 64 = x / 64
  · rw [if_pos h, Nat.testBit_and, inv_bit (pow_lt64 hx64), Nat.testBit_two_pow, h, show decide (j % 64 < 64) = true from decide_eq_true hj64, Bool.true_and]
    congr 2
    exact decide_eq_decide.2 ⟨fun e => by omega, fun e => by omega⟩
  · rw [if_neg h, show decide (j = x) = false from decide_eq_false fun e => h (by rw [e])]
    simp
theorem putB_len (U : List Nat) (x : Nat) : (putB U x).length = U.length := by simp [putB]
theorem delB_len (U : List Nat) (x : Nat) : (delB U x).length = U.length := by simp [delB]
theorem set_all {U : List Nat} {i u : Nat} (hU : ∀ u ∈ U, u < 18446744073709551616) (hu : u < 18446744073709551616) : ∀ y ∈ U.set i u, y < 18446744073709551616 := fun y hy => by
  rcases List.mem_or_eq_of_mem_set hy with h | h
  · exact hU y h
  · rw [h]; exact hu
theorem putB_big {U : List Nat} {x : Nat} (hU : ∀ u ∈ U, u < 18446744073709551616) : ∀ u ∈ putB U x, u < 18446744073709551616 :=
  set_all hU (by
    have h1 := getD_lt hU (x / 64)
    have h2 := pow_lt64 (Nat.mod_lt x (show 0 < 64 by decide))
    have := Nat.or_lt_two_pow (n := 64) (by simpa using h1) (by simpa using h2)
    simpa using this)
theorem delB_big {U : List Nat} {x : Nat} (hU : ∀ u ∈ U, u < 18446744073709551616) : ∀ u ∈ delB U x, u < 18446744073709551616 :=
  set_all hU (by
    have h1 := getD_lt hU (x / 64)
    have := Nat.and_le_left (n := U.getD (x / 64) 0) (m := 18446744073709551615 - 2 ^ (x % 64))
    omega)
theorem hasB_app {U : List Nat} {j : Nat} : hasB (U ++ [0]) j = hasB U j := by
  unfold hasB
  congr 1
  rw [List.getD_eq_getElem?_getD, List.getD_eq_getElem?_getD]
  rcases Nat.lt_or_ge (j / 64) U.length with h | h
  · rw [List.getElem?_append_left h]
  · rw [List.getElem?_append_right h, List.getElem?_eq_none h]
    cases h2 : j / 64 - U.length with
    | zero => rfl
    | succ q => simp
theorem hasB_far {U : List Nat} {j : Nat} (h : 64 * U.length ≤ j) : hasB U j = false := by
  unfold hasB
  rw [List.getD_eq_getElem?_getD, List.getElem?_eq_none (by omega)]
  simp
/-- The lowest bit. -/
theorem ctz_bit {x : Nat} (h0 : x ≠ 0) (hx : x < 18446744073709551616) : Lib.ctz 64 x < 64 ∧ x.testBit (Lib.ctz 64 x) = true ∧ ∀ j, j < Lib.ctz 64 x → x.testBit j = false := by
  unfold Lib.ctz
  rw [if_neg h0]
  obtain ⟨m, hm, hk⟩ := Lib.ctzFrom_spec 64 x (by omega) (by simpa using hx)
  generalize Lib.ctzFrom 64 x = c at *
  refine ⟨hk, ?_, fun j hj => ?_⟩
  · rw [hm, Nat.mul_comm, Nat.testBit_mul_two_pow]
    simp [Nat.testBit_zero]
  · rw [hm, Nat.mul_comm, Nat.testBit_mul_two_pow]
    simp [show ¬ c ≤ j by omega]
theorem ctz_zero : Lib.ctz 64 0 = 64 := by simp [Lib.ctz]
/-- A word's lowest free number. -/
theorem free_word {ns U : List Nat} {i y : Nat} (hbit : ∀ j, hasB U j = decide (j ∈ ns)) (hbig : ∀ u ∈ U, u < 18446744073709551616) (hall : ∀ j, j < 64 * i → j ∈ ns) (hy : 18446744073709551615 - U.getD i 0 = y) :
    (Lib.ctz 64 y < 64 → freeN ns = i * 64 + Lib.ctz 64 y) ∧ (¬ Lib.ctz 64 y < 64 → ∀ j, j < 64 * (i + 1) → j ∈ ns) := by
  have hx := getD_lt hbig i
  have hyb : y < 18446744073709551616 := by omega
  have hin : ∀ c, c < 64 → (decide (i * 64 + c ∈ ns)) = !y.testBit c := fun c hc => by
    rw [← hbit, ← hy, inv_bit hx, show decide (c < 64) = true from decide_eq_true hc, Bool.true_and, Bool.not_not]
    unfold hasB
    rw [show (i * 64 + c) / 64 = i by omega, show (i * 64 + c) % 64 = c by omega]
  constructor
  · intro hF
    have h0 : y ≠ 0 := fun e => by rw [e, ctz_zero] at hF; omega
    obtain ⟨_, h1, h2⟩ := ctz_bit h0 hyb
    refine freeN_is (fun hm => ?_) fun j hj => ?_
    · have := hin _ hF
      rw [h1, decide_eq_true hm] at this
      cases this
    · rcases Nat.lt_or_ge j (64 * i) with h3 | h3
      · exact hall j h3
      · have h4 := hin (j - i * 64) (by omega)
        rw [h2 _ (by omega), show i * 64 + (j - i * 64) = j by omega] at h4
        exact of_decide_eq_true h4
  · intro hF j hj
    have h0 : y = 0 := by
      rcases Nat.eq_zero_or_pos y with h | h
      · exact h
      · exact absurd (ctz_bit (by omega) hyb).1 hF
    rcases Nat.lt_or_ge j (64 * i) with h3 | h3
    · exact hall j h3
    · have h4 := hin (j - i * 64) (by omega)
      rw [h0, Nat.zero_testBit, show i * 64 + (j - i * 64) = j by omega] at h4
      exact of_decide_eq_true h4
theorem free_end {ns U : List Nat} (hbit : ∀ j, hasB U j = decide (j ∈ ns)) (hall : ∀ j, j < 64 * U.length → j ∈ ns) : freeN ns = U.length * 64 := by
  refine freeN_is (fun hm => ?_) fun j hj => hall j (by omega)
  have := hbit (U.length * 64)
  rw [hasB_far (by omega), decide_eq_true hm] at this
  cases this

section
variable {α : Type}
/-- The list m as the program has it: places P, words U. -/
structure Rp (m : CSt α) (P : List (Pn α)) (U : List Nat) : Prop where
  good : GoodC m
  len1 : 1 ≤ P.length
  lenN : P.length ≤ m.n + 1
  lt : ∀ k ∈ m.nodes, k + 1 < P.length
  ring : ∀ i, i ≤ m.l.length → nN P (rg m.nodes i) = some (rg m.nodes (i + 1)) ∧ pN P (rg m.nodes (i + 1)) = some (rg m.nodes i)
  val : ∀ (i : Nat) (p : Nat × α), m.l[i]? = some p → vN P p.1 = some p.2
  bit : ∀ j, hasB U j = decide (j ∈ m.nodes)
  big : ∀ u ∈ U, u < 18446744073709551616
  room : P.length ≤ 64 * U.length + 1
  lenU : U.length ≤ 128
variable {m : CSt α} {P : List (Pn α)} {U : List Nat} {i k x : Nat} {z : Int} {v z0 : α}
theorem Rp.new (h1 : 1 ≤ k) (h8 : k ≤ 8192) : Rp (newC α k) [(-1, -1, z0)] [] :=
  ⟨newC_good h1 h8, by simp, by simp [newC], fun k hk => by simp [newC, CSt.nodes] at hk, fun i hi => by
    have : i = 0 := by simpa [newC] using hi
    subst this
    exact ⟨rfl, rfl⟩, fun i p hp => by simp [newC] at hp, fun j => by simp [hasB, newC, CSt.nodes], fun u hu => by simp at hu, by simp, by simp⟩
/-- Where a new place and a new word are wanted. -/
def morP (z0 : α) (P : List (Pn α)) (x : Nat) : List (Pn α) := if x + 1 = P.length then P ++ [(0, 0, z0)] else P
def morU (U : List Nat) (x : Nat) : List Nat := if x / 64 = U.length then U ++ [0] else U
theorem nodes_ins (m : CSt α) (i : Nat) (v : α) : ({ m with l := insC m.l i v } : CSt α).nodes = m.nodes.take i ++ freeN m.nodes :: m.nodes.drop i := ins_nodes m.l i v
/-- The bounds of the new number. -/
theorem Rp.free (R : Rp m P U) (hn : m.l.length < m.n) (hx : freeN m.nodes = x) : x ∉ m.nodes ∧ x + 1 ≤ P.length ∧ x / 64 ≤ U.length ∧ x < m.n := by
  obtain ⟨f1, f2, f3⟩ := freeN_spec m.nodes
  rw [hx] at f1 f2 f3
  rw [nodes_len] at f3
  have h1 := R.len1
  have h2 := R.room
  have h3 : x + 1 ≤ P.length := by
    rcases Nat.lt_or_ge P.length (x + 1) with h | h
    · have := R.lt _ (f2 (P.length - 1) (by omega))
      omega
    · exact h
  exact ⟨f1, h3, by omega, by omega⟩
theorem morP_len (R : Rp m P U) (hn : m.l.length < m.n) (hx : freeN m.nodes = x) : x + 1 < (morP z0 P x).length ∧ (morP z0 P x).length ≤ m.n + 1 ∧ P.length ≤ (morP z0 P x).length := by
  obtain ⟨_, h3, _, h4⟩ := R.free hn hx
  have := R.lenN
  unfold morP
  split
  · rw [List.length_append, List.length_singleton]; omega
  · omega
theorem morU_len (R : Rp m P U) (hn : m.l.length < m.n) (hx : freeN m.nodes = x) : x / 64 < (morU U x).length ∧ (morU U x).length ≤ 128 ∧ U.length ≤ (morU U x).length := by
  obtain ⟨_, h3, h5, h4⟩ := R.free hn hx
  have := R.lenU
  have := R.good.n8
  unfold morU
  split
  · rw [List.length_append, List.length_singleton]; omega
  · omega
theorem morP_n {u : Int} (h : nN P z = some u) : nN (morP z0 P x) z = some u := by
  unfold morP; split
  · exact nN_app h
  · exact h
theorem morP_p {u : Int} (h : pN P z = some u) : pN (morP z0 P x) z = some u := by
  unfold morP; split
  · exact pN_app h
  · exact h
theorem morP_v {u : α} (h : vN P k = some u) : vN (morP z0 P x) k = some u := by
  unfold morP; split
  · exact vN_app h
  · exact h
theorem morU_has (j : Nat) : hasB (morU U x) j = hasB U j := by
  unfold morU; split
  · exact hasB_app
  · rfl
theorem morU_big (h : ∀ u ∈ U, u < 18446744073709551616) : ∀ u ∈ morU U x, u < 18446744073709551616 := by
  unfold morU; split
  · intro u hu
    rcases List.mem_append.1 hu with h1 | h1
    · exact h u h1
    · rw [List.mem_singleton.1 h1]; decide
  · exact h
/-- A node is added behind place i of the ring. -/
def insP (z0 : α) (P : List (Pn α)) (x : Nat) (a b : Int) (v : α) : List (Pn α) := (joinP (joinP (morP z0 P x) a x) x b).modify (x + 1) fun q => (q.1, q.2.1, v)
theorem Rp.ins (R : Rp m P U) (hn : m.l.length < m.n) (hx : freeN m.nodes = x) (hi : i ≤ m.l.length) (v : α) :
    Rp ({ m with l := insC m.l i v } : CSt α) (insP z0 P x (rg m.nodes i) (rg m.nodes (i + 1)) v) (putB (morU U x) x) := by
  obtain ⟨f1, f2, f3, f4⟩ := R.free hn hx
  obtain ⟨l1, l2, l3⟩ := morP_len (z0 := z0) R hn hx
  obtain ⟨u1, u2, u3⟩ := morU_len R hn hx
  have hnl := nodes_len m
  have nd := R.good.nd
  have hG : GoodC ({ m with l := insC m.l i v } : CSt α) := by
    have := R.good.ins i v
    unfold CSt.ins at this
    rw [if_neg (by omega)] at this
    exact this
  have hns := nodes_ins m i v
  rw [hx] at hns
  have hperm : (m.nodes.take i ++ x :: m.nodes.drop i).Perm (x :: m.nodes) := by
    have := List.perm_middle (a := x) (l₁ := m.nodes.take i) (l₂ := m.nodes.drop i)
    rw [List.take_append_drop] at this
    exact this
  have hmem : ∀ j, j ∈ ({ m with l := insC m.l i v } : CSt α).nodes ↔ j = x ∨ j ∈ m.nodes := fun j => by rw [hns, hperm.mem_iff, List.mem_cons]
  have hlen : (insP z0 P x (rg m.nodes i) (rg m.nodes (i + 1)) v).length = (morP z0 P x).length := by
    unfold insP; rw [List.length_modify, join_len, join_len]
  have hnx : ∃ u, nN (morP z0 P x) (x : Int) = some u := nN_lt (by omega) (by omega)
  have hpx : ∃ u, pN (morP z0 P x) (x : Int) = some u := pN_lt (by omega) (by omega)
  obtain ⟨ux, hnx⟩ := hnx
  obtain ⟨px, hpx⟩ := hpx
  have hno := rg_no f1
  have hge := rg_ge m.nodes
  have Nn : ∀ y, -1 ≤ y → nN (insP z0 P x (rg m.nodes i) (rg m.nodes (i + 1)) v) y = if y = (x : Int) then some (rg m.nodes (i + 1)) else if y = rg m.nodes i then some (x : Int) else nN (morP z0 P x) y := fun y hy => by
    unfold insP
    rw [nN_val, nN_join (by omega) hy, nN_join (hge i) hy]
    by_cases h1 : y = (x : Int)
    · rw [if_pos h1, if_pos h1]
      rw [if_neg (fun e => hno i (by rw [← e, h1])), h1, hnx]; rfl
    · rw [if_neg h1, if_neg h1]
      by_cases h2 : y = rg m.nodes i
      · rw [if_pos h2, if_pos h2, h2, morP_n (R.ring i hi).1]; rfl
      · rw [if_neg h2, if_neg h2]
  have Pp : ∀ y, -1 ≤ y → pN (insP z0 P x (rg m.nodes i) (rg m.nodes (i + 1)) v) y = if y = rg m.nodes (i + 1) then some (x : Int) else if y = (x : Int) then some (rg m.nodes i) else pN (morP z0 P x) y := fun y hy => by
    unfold insP
    rw [pN_val, pN_join (hge (i + 1)) hy, pN_join (by omega) hy]
    by_cases h1 : y = rg m.nodes (i + 1)
    · rw [if_pos h1, if_pos h1, if_neg (fun e => hno (i + 1) (by rw [← h1, e])), h1, morP_p (R.ring i hi).2]; rfl
    · rw [if_neg h1, if_neg h1]
      by_cases h2 : y = (x : Int)
      · rw [if_pos h2, if_pos h2, h2, hpx]; rfl
      · rw [if_neg h2, if_neg h2]
  refine ⟨hG, by omega, by rw [hlen]; exact l2, fun k hk => ?_, fun j hj => ?_, fun j p hp => ?_, fun j => ?_, putB_big (morU_big R.big), ?_, by rw [putB_len]; exact u2⟩
  · rw [hlen]
    rcases (hmem k).1 hk with h | h
    · omega
    · have := R.lt k h; omega
  · have hj' : j ≤ m.l.length + 1 := by
      have : (insC m.l i v).length = m.l.length + 1 := ins_len m.l i v
      rw [this] at hj; exact hj
    rw [hns, rg_ins (by omega), rg_ins (by omega)]
    rcases Nat.lt_trichotomy j i with h | h | h
    · rw [if_pos (by omega), if_pos (by omega), Nn _ (hge j), Pp _ (hge (j + 1)), if_neg (hno j), if_neg (fun e => by have := rg_inj nd (by omega) (by omega) e; omega),
        if_neg (fun e => by have := rg_inj2 nd (by omega) (by omega) e; omega), if_neg (hno (j + 1))]
      exact ⟨morP_n (R.ring j (by omega)).1, morP_p (R.ring j (by omega)).2⟩
    · subst h
      rw [if_pos (by omega), if_neg (by omega), if_pos rfl, Nn _ (hge j), Pp _ (by omega), if_neg (hno j), if_pos rfl, if_neg (fun e => hno (j + 1) e.symm), if_pos rfl]
      exact ⟨rfl, rfl⟩
    · by_cases h2 : j = i + 1
      · subst h2
        rw [if_neg (by omega), if_pos rfl, if_neg (by omega), if_neg (by omega), show i + 1 + 1 - 1 = i + 1 by omega, Nn _ (by omega), Pp _ (hge (i + 1)), if_pos rfl, if_pos rfl]
        exact ⟨rfl, rfl⟩
      · rw [if_neg (by omega), if_neg h2, if_neg (by omega), if_neg (by omega)]
        obtain ⟨q, rfl⟩ : ∃ q, j = q + 1 := ⟨j - 1, by omega⟩
        rw [show q + 1 - 1 = q by omega, show q + 1 + 1 - 1 = q + 1 by omega, Nn _ (hge q), Pp _ (hge (q + 1)), if_neg (hno q), if_neg (fun e => by have := rg_inj nd (by omega) (by omega) e; omega),
          if_neg (fun e => by have := rg_inj2 nd (by omega) (by omega) e; omega), if_neg (hno (q + 1))]
        exact ⟨morP_n (R.ring q (by omega)).1, morP_p (R.ring q (by omega)).2⟩
  · have hv : ∀ k, vN (insP z0 P x (rg m.nodes i) (rg m.nodes (i + 1)) v) k = if k = x then some v else vN (morP z0 P x) k := fun k => by
      unfold insP
      rw [vN_val, vN_join, vN_join]
      by_cases h : k = x
      · rw [if_pos h, if_pos h, h]
        unfold vN
        rw [List.getElem?_eq_getElem l1]; rfl
      · rw [if_neg h, if_neg h]
    have hp' : p ∈ insC m.l i v := List.mem_of_getElem? hp
    unfold insC at hp'
    rw [hv]
    rcases List.mem_append.1 hp' with h | h
    · obtain ⟨q, hq⟩ := List.mem_iff_getElem?.1 (List.mem_of_mem_take h)
      rw [if_neg (fun e => f1 (by rw [← e]; exact List.mem_map.2 ⟨p, List.mem_of_mem_take h, rfl⟩))]
      exact morP_v (R.val q p hq)
    · rcases List.mem_cons.1 h with h | h
      · subst h
        show (if freeN m.nodes = x then _ else _) = _
        rw [if_pos hx]
      · obtain ⟨q, hq⟩ := List.mem_iff_getElem?.1 (List.mem_of_mem_drop h)
        rw [if_neg (fun e => f1 (by rw [← e]; exact List.mem_map.2 ⟨p, List.mem_of_mem_drop h, rfl⟩))]
        exact morP_v (R.val q p hq)
  · rw [hasB_put u1, morU_has, R.bit, ← Bool.decide_or]
    exact decide_eq_decide.2 ⟨fun h => (hmem j).2 h.symm, fun h => ((hmem j).1 h).symm⟩
  · rw [hlen, putB_len]
    have := R.room
    unfold morP
    split
    · rw [List.length_append, List.length_singleton]; omega
    · omega
/-- A node is removed. -/
theorem Rp.rem (R : Rp m P U) (hp : placeC m.l (k : Int) = some i) (z0 : α) :
    Rp (m.rem (k : Int)) ((joinP P (rg m.nodes i) (rg m.nodes (i + 2))).set (k + 1) (0, 0, z0)) (delB U k) ∧ rg m.nodes (i + 1) = (k : Int) ∧ i < m.l.length := by
  obtain ⟨p, hp1, hp2, hil⟩ := place_some hp
  have hnl := nodes_len m
  have nd := R.good.nd
  have hk : m.nodes[i]? = some k := by
    have : p.1 = k := by omega
    simp [CSt.nodes, hp1, this]
  have hkm := List.mem_of_getElem? hk
  have hrk := rg_at hk
  have hm : m.rem (k : Int) = { m with l := remC m.l i } := by unfold CSt.rem; rw [hp]
  have hns : (m.rem (k : Int)).nodes = m.nodes.take i ++ m.nodes.drop (i + 1) := by rw [hm]; simp [CSt.nodes, remC, List.map_take, List.map_drop]
  have hge := rg_ge m.nodes
  have hsp : m.nodes = m.nodes.take i ++ k :: m.nodes.drop (i + 1) := by
    have := List.take_append_drop i m.nodes
    rw [List.drop_eq_getElem_cons (by omega)] at this
    rw [(List.getElem?_eq_some_iff.1 hk).2] at this
    exact this.symm
  have hmem : ∀ j, j ∈ (m.rem (k : Int)).nodes ↔ j ∈ m.nodes ∧ j ≠ k := fun j => by
    rw [hns]
    have nd2 := nd
    rw [hsp] at nd2
    have h2 := (List.perm_middle (a := k) (l₁ := m.nodes.take i) (l₂ := m.nodes.drop (i + 1)))
    have h3 := h2.nodup_iff.1 nd2
    have h4 : j ∈ m.nodes ↔ j = k ∨ j ∈ m.nodes.take i ++ m.nodes.drop (i + 1) := by
      conv => lhs; rw [hsp]
      rw [h2.mem_iff, List.mem_cons]
    rw [h4]
    constructor
    · intro h
      refine ⟨.inr h, fun e => ?_⟩
      subst e
      exact (List.nodup_cons.1 h3).1 h
    · rintro ⟨h | h, hne⟩
      · exact absurd h hne
      · exact h
  have hlen : ((joinP P (rg m.nodes i) (rg m.nodes (i + 2))).set (k + 1) (0, 0, z0)).length = P.length := by rw [List.length_set, join_len]
  have hrl : (m.rem (k : Int)).l.length + 1 = m.l.length := by rw [hm]; show (remC m.l i).length + 1 = _; unfold remC; rw [List.length_append, List.length_take, List.length_drop]; omega
  have Nn : ∀ y, -1 ≤ y → y ≠ (k : Int) → nN ((joinP P (rg m.nodes i) (rg m.nodes (i + 2))).set (k + 1) (0, 0, z0)) y = if y = rg m.nodes i then some (rg m.nodes (i + 2)) else nN P y := fun y hy hyk => by
    rw [nN_set hy hyk, nN_join (hge i) hy]
    by_cases h : y = rg m.nodes i
    · rw [if_pos h, if_pos h, h, (R.ring i (by omega)).1]; rfl
    · rw [if_neg h, if_neg h]
  have Pp : ∀ y, -1 ≤ y → y ≠ (k : Int) → pN ((joinP P (rg m.nodes i) (rg m.nodes (i + 2))).set (k + 1) (0, 0, z0)) y = if y = rg m.nodes (i + 2) then some (rg m.nodes i) else pN P y := fun y hy hyk => by
    rw [pN_set hy hyk, pN_join (hge _) hy]
    by_cases h : y = rg m.nodes (i + 2)
    · rw [if_pos h, if_pos h, h, (R.ring (i + 1) (by omega)).2]; rfl
    · rw [if_neg h, if_neg h]
  have hku : k / 64 < U.length := by
    have := R.lt k hkm
    have := R.room
    omega
  refine ⟨⟨R.good.rem _, by rw [hlen]; exact R.len1, by rw [hlen, hm]; exact R.lenN, fun j hj => by rw [hlen]; exact R.lt j ((hmem j).1 hj).1, fun j hj => ?_, fun j p' hp' => ?_, fun j => ?_, delB_big R.big, by rw [hlen, delB_len]; exact R.room, by rw [delB_len]; exact R.lenU⟩, hrk, hil⟩
  · have hj' : j + 1 ≤ m.l.length := by omega
    have n1 : ∀ q, q ≤ m.l.length → q ≠ i + 1 → rg m.nodes q ≠ (k : Int) := fun q hq hne e => hne (rg_inj nd (by omega) (by omega) (e.trans hrk.symm))
    have n2 : ∀ q, q ≤ m.l.length → q ≠ i → rg m.nodes (q + 1) ≠ (k : Int) := fun q hq hne e => hne (rg_inj2 nd (by omega) (by omega) (e.trans hrk.symm))
    rw [hns, rg_rem (by omega), rg_rem (by omega)]
    rcases Nat.lt_trichotomy j i with h | h | h
    · rw [if_pos (by omega), if_pos (by omega), Nn _ (hge j) (n1 j (by omega) (by omega)), Pp _ (hge _) (n2 j (by omega) (by omega)), if_neg (fun e => by have := rg_inj nd (by omega) (by omega) e; omega),
        if_neg (fun e => by have := rg_inj2 nd (i := j) (j := i + 1) (by omega) (by omega) e; omega)]
      exact R.ring j (by omega)
    · subst h
      rw [if_pos (by omega), if_neg (by omega), Nn _ (hge j) (n1 j (by omega) (by omega)), Pp _ (hge _) (n2 (j + 1) (by omega) (by omega)), if_pos rfl, if_pos rfl]
      exact ⟨rfl, rfl⟩
    · rw [if_neg (by omega), if_neg (by omega), Nn _ (hge _) (n1 (j + 1) (by omega) (by omega)), Pp _ (hge _) (n2 (j + 1) (by omega) (by omega)), if_neg (fun e => by have := rg_inj nd (i := j + 1) (j := i) (by omega) (by omega) e; omega),
        if_neg (fun e => by have := rg_inj2 nd (i := j + 1) (j := i + 1) (by omega) (by omega) e; omega)]
      exact R.ring (j + 1) (by omega)
  · have hin : p' ∈ m.l := by
      have := List.mem_of_getElem? hp'
      rw [hm] at this
      rcases List.mem_append.1 this with h | h
      · exact List.mem_of_mem_take h
      · exact List.mem_of_mem_drop h
    have hne : p'.1 ≠ k := by
      have : p'.1 ∈ (m.rem (k : Int)).nodes := List.mem_map.2 ⟨p', List.mem_of_getElem? hp', rfl⟩
      exact ((hmem _).1 this).2
    obtain ⟨q, hq⟩ := List.mem_iff_getElem?.1 hin
    rw [vN_set hne, vN_join]
    exact R.val q p' hq
  · rw [hasB_del hku, R.bit]
    rw [show (!decide (j = k)) = decide (j ≠ k) by simp, ← Bool.decide_and]
    exact decide_eq_decide.2 (hmem j).symm
/-- What the words say. -/
theorem Rp.has (R : Rp m P U) (k : Nat) : hasB U k = (placeC m.l (k : Int)).isSome := by rw [R.bit, place_node]
theorem Rp.off (R : Rp m P U) (h : z < 0 ∨ (P.length : Int) - 1 ≤ z) : placeC m.l z = none := by
  cases hp : placeC m.l z with
  | none => rfl
  | some i =>
    obtain ⟨p, hp1, hp2, _⟩ := place_some hp
    have := R.lt p.1 (List.mem_map.2 ⟨p, List.mem_of_getElem? hp1, rfl⟩)
    omega
theorem Rp.on (R : Rp m P U) (h : placeC m.l z = some i) : ∃ k : Nat, z = (k : Int) ∧ k + 1 < P.length ∧ k / 64 < U.length ∧ i < m.l.length ∧ rg m.nodes (i + 1) = (k : Int) := by
  obtain ⟨p, hp1, hp2, hil⟩ := place_some h
  have h1 := R.lt p.1 (List.mem_map.2 ⟨p, List.mem_of_getElem? hp1, rfl⟩)
  have h2 := R.room
  exact ⟨p.1, by omega, h1, by omega, hil, rg_at (by simp [CSt.nodes, hp1])⟩
theorem rg_getD {ns : List Nat} {i : Nat} (h : i < ns.length) : rg ns (i + 1) = ((ns.getD i 0 : Nat) : Int) := by rw [rg_at (List.getElem?_eq_getElem h), List.getD_eq_getElem?_getD, List.getElem?_eq_getElem h]; rfl
theorem Rp.next (R : Rp m P U) (h : placeC m.l z = some i) : nN P z = some (m.by_ z 1) := by
  obtain ⟨k, rfl, _, _, hi, hr⟩ := R.on h
  have hnl := nodes_len m
  rw [← hr, (R.ring (i + 1) (by omega)).1, hr]
  unfold CSt.by_
  rw [h]
  congr 1
  by_cases h1 : i + 1 < m.l.length
  · show _ = (if _ then _ else _)
    rw [if_neg (by omega), show ((i : Int) + 1).toNat = i + 1 by omega]
    exact rg_getD (by omega)
  · show _ = (if _ then _ else _)
    rw [if_pos (by omega)]
    exact rg_end (by omega)
theorem Rp.prev (R : Rp m P U) (h : placeC m.l z = some i) : pN P z = some (m.by_ z (-1)) := by
  obtain ⟨k, rfl, _, _, hi, hr⟩ := R.on h
  have hnl := nodes_len m
  rw [← hr, (R.ring i (by omega)).2, hr]
  unfold CSt.by_
  rw [h]
  congr 1
  cases i with
  | zero => show _ = (if _ then _ else _); rw [if_pos (by omega)]; rfl
  | succ i =>
    show _ = (if _ then _ else _)
    rw [if_neg (by omega), show (((i + 1 : Nat) : Int) + -1).toNat = i by omega]
    exact rg_getD (by omega)
theorem by_off (d : Int) (h : placeC m.l z = none) : m.by_ z d = -1 := by unfold CSt.by_; rw [h]
theorem Rp.first (R : Rp m P U) : nN P (-1) = some m.first := by
  have := (R.ring 0 (Nat.zero_le _)).1
  rw [show rg m.nodes 0 = -1 from rfl] at this
  rw [this]
  unfold CSt.first
  congr 1
  cases m.nodes with
  | nil => rfl
  | cons a l => rfl
theorem last_rg (m : CSt α) : m.last = rg m.nodes m.l.length := by
  have hnl := nodes_len m
  unfold CSt.last
  rw [List.getLast?_eq_getElem?, ← hnl]
  cases h : m.nodes.length with
  | zero => rw [show m.nodes = [] from List.eq_nil_of_length_eq_zero h]; rfl
  | succ q =>
    rw [show q + 1 - 1 = q by omega, rg_at (List.getElem?_eq_getElem (show q < m.nodes.length by omega)), List.getElem?_eq_getElem (show q < m.nodes.length by omega)]
theorem Rp.last (R : Rp m P U) : pN P (-1) = some m.last := by
  have hnl := nodes_len m
  have := (R.ring m.l.length (Nat.le_refl _)).2
  rw [rg_end (show m.nodes.length < m.l.length + 1 by omega)] at this
  rw [this, last_rg]
theorem firstC_nil (h : m.l.length = 0) : m.first = -1 := by
  unfold CSt.first; rw [show m.nodes = [] from List.eq_nil_of_length_eq_zero (by rw [nodes_len]; exact h)]; rfl
theorem lastC_nil (h : m.l.length = 0) : m.last = -1 := by
  unfold CSt.last; rw [show m.nodes = [] from List.eq_nil_of_length_eq_zero (by rw [nodes_len]; exact h)]; rfl
theorem nN_place {P : List (Pn α)} {z u : Int} (h : nN P z = some u) : ∃ q, P[(z + 1).toNat]? = some q ∧ q.2.1 = u ∧ (z + 1).toNat < P.length := by
  unfold nN at h
  obtain ⟨q, hq, e⟩ := Option.map_eq_some_iff.1 h
  exact ⟨q, hq, e, (List.getElem?_eq_some_iff.1 hq).1⟩
theorem pN_place {P : List (Pn α)} {z u : Int} (h : pN P z = some u) : ∃ q, P[(z + 1).toNat]? = some q ∧ q.1 = u ∧ (z + 1).toNat < P.length := by
  unfold pN at h
  obtain ⟨q, hq, e⟩ := Option.map_eq_some_iff.1 h
  exact ⟨q, hq, e, (List.getElem?_eq_some_iff.1 hq).1⟩
theorem insC_full (h : m.l.length = m.n) : m.ins i v = ((0, 7), m) := if_pos h
theorem insC_room (h : m.l.length ≠ m.n) (hx : freeN m.nodes = x) : m.ins i v = ((((x : Nat) : Int), 0), { m with l := insC m.l i v }) := by rw [← hx]; exact if_neg h
end
end Go.Proofs.YtlfhkhnhcckajaaGreatDoor

/- math/bits.TrailingZeros64 at this program, over its table; the bit of a number. Conditions: none beyond those typed. -/
namespace Go.Proofs.YtlfhkhnhcckajaaGreatDoor
open Go.ChangeShapes Go.WideShapes Go.ChangeAt Go.RowKit
set_option linter.unusedVariables false
set_option linter.unusedSimpArgs false

set_option maxHeartbeats 1000000 in
theorem tz_core (x k idx : Nat) (w : World) (hx0 : ((x : Int) == 0) = false)
    (key : IntKind.u64.wrap (bits BinOp.and IntKind.u64 (x : Int) (IntKind.u64.wrap (-(x : Int))) * 285870213051353865) / 288230376151711744 = (idx : Int))
    (hi : idx < 64) (hk : k < 64) (hcell : w.cell? ⟨0, idx, none⟩ = some (.int .u8 k)) :
    Calls Tryz.prog 135 #[.int .u64 x] w fun e w' => e = .returned (.int .i64 k) ∧ w = w' := by
  go_enter Tryz.func135, Tryz.ntmps135
  go_wp2_with (simp only [key])
  go_ret
  exact ⟨rfl, rfl⟩
theorem tz_zero (w : World) : Calls Tryz.prog 135 #[.int .u64 0] w fun e w' => e = .returned (.int .i64 64) ∧ w = w' := by
  go_enter Tryz.func135, Tryz.ntmps135
  go_wp2
  go_ret
  exact ⟨rfl, rfl⟩
theorem tz_key (x a : Nat) (hx : x < 18446744073709551616) (hx0 : x ≠ 0) (hlow : x &&& (18446744073709551616 - x) = a) :
    IntKind.u64.wrap (bits BinOp.and IntKind.u64 (x : Int) (IntKind.u64.wrap (-(x : Int))) * 285870213051353865) / 288230376151711744 = ((a * 285870213051353865 % 18446744073709551616 / 288230376151711744 : Nat) : Int) := by
  have e1 : IntKind.u64.wrap (-(x : Int)) = ((18446744073709551616 - x : Nat) : Int) := by rw [IntKind.wrap_u64]; omega
  rw [e1, bits_and_u64_nat x _ hx (by omega), hlow, IntKind.wrap_u64]
  omega
theorem tz_any (x : Nat) (hx : x < 18446744073709551616) (w : World) (hT : Tab w) :
    Calls Tryz.prog 135 #[.int .u64 x] w fun e w' => e = .returned (.int .i64 (Lib.ctz 64 x)) ∧ w = w' := by
  by_cases hx0 : x = 0
  · subst hx0
    rw [ctz_zero]
    exact tz_zero w
  · obtain ⟨hlow, hk⟩ := Lib.lowest_bit 64 x hx0 hx
    obtain ⟨hi, htab⟩ := Lib.deBruijn64_at _ hk
    have hcell := hT _ hi
    rw [htab] at hcell
    exact tz_core x _ _ w (by simp; omega) (tz_key x _ hx hx0 hlow) hi hk hcell
theorem bit_any (k : Nat) (hk : k ≤ 1000000) (w : World) : Calls Tryz.prog 101 #[.int .i64 k] w fun e w' => e = .returned (.int .u64 ((2 ^ (k % 64) : Nat) : Int)) ∧ w = w' := by
  obtain ⟨r, hr⟩ : ∃ r, k % 64 = r := ⟨_, rfl⟩
  have hr64 : r < 64 := by omega
  have ht : (k : Int).tmod 64 = (r : Int) := by rw [Int.tmod_eq_emod_of_nonneg (by omega)]; omega
  have hw : IntKind.i64.wrap (r : Int) = (r : Int) := by rw [IntKind.wrap_i64]; omega
  have h2 := pow_lt64 hr64
  have hp : ((2 ^ r : Nat) : Int) = (2 : Int) ^ r := by simp
  have hw2 : IntKind.u64.wrap ((2 : Int) ^ r) = ((2 ^ r : Nat) : Int) := by
    rw [← hp]
    generalize 2 ^ r = B at *
    rw [IntKind.wrap_u64]; omega
  rw [hr]
  clear hr hp h2
  go_enter Tryz.func101, Tryz.ntmps101
  go_wp2
  go_ret
  exact ⟨rfl, rfl⟩
theorem inv_any {x : Nat} (hx : x < 18446744073709551616) : bits .xor .u64 IntKind.u64.max (x : Int) = ((18446744073709551615 - x : Nat) : Int) := by
  have e2 : IntKind.u64.max = ((2 ^ 64 - 1 : Nat) : Int) := by decide
  rw [e2, bits_xor_u64_nat _ _ (by decide) (by omega), Lib.xor_ones64 _ (by omega)]
end Go.Proofs.YtlfhkhnhcckajaaGreatDoor
