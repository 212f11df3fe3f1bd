/- Words for rows of inputs: a slice that reads as inputs, a row of inputs of the call's own, append onto one, make, == on inputs. Conditions: none beyond those typed. -/
import Derived.Test.YtoaijnpkenflbaaFmath
import Derived.Test.YtoaijnpkenflbaaEapp
namespace Go.Proofs.Ytoaijnpkenflbaa
open Go.ChangeShapes Go.WideShapes Go.ChangeAt Go.RowKit
set_option linter.unusedVariables false
set_option linter.unusedSimpArgs false
set_option maxRecDepth 100000

/-- An input as a value. -/
def inV (r : Inp) : Value := .agg #[.string r.1, .int .i64 r.2.1, .int .u64 r.2.2.1, .int .i64 r.2.2.2]
def cellsI (L : List Inp) : List Value := L.flatMap fun r => [.string r.1, .int .i64 r.2.1, .int .u64 r.2.2.1, .int .i64 r.2.2.2]
theorem cellsI_cons (r : Inp) (s : List Inp) : cellsI (r :: s) = .string r.1 :: .int .i64 r.2.1 :: .int .u64 r.2.2.1 :: .int .i64 r.2.2.2 :: cellsI s := rfl
theorem cellsI_length : ∀ R : List Inp, (cellsI R).length = R.length * 4
  | [] => rfl
  | r :: s => by
    rw [cellsI_cons, List.length_cons, List.length_cons, List.length_cons, List.length_cons, cellsI_length s, List.length_cons]
    omega
theorem cellsI_append (R S : List Inp) : cellsI (R ++ S) = cellsI R ++ cellsI S := by simp [cellsI]
theorem cellsI_mem : ∀ {R : List Inp} {u : Value}, u ∈ cellsI R → u.oneCell' = true
  | [], u, h => by simp [cellsI] at h
  | r :: s, u, h => by
    rw [cellsI_cons] at h
    rcases List.mem_cons.1 h with rfl | h
    · rfl
    · rcases List.mem_cons.1 h with rfl | h
      · rfl
      · rcases List.mem_cons.1 h with rfl | h
        · rfl
        · rcases List.mem_cons.1 h with rfl | h
          · rfl
          · exact cellsI_mem h
theorem cellsI_at : ∀ {R : List Inp} {j : Nat} {r : Inp}, R[j]? = some r → (cellsI R)[j * 4]? = some (.string r.1) ∧ (cellsI R)[j * 4 + 1]? = some (.int .i64 r.2.1) ∧ (cellsI R)[j * 4 + 2]? = some (.int .u64 r.2.2.1) ∧ (cellsI R)[j * 4 + 3]? = some (.int .i64 r.2.2.2)
  | [], j, r, h => by simp at h
  | x :: s, 0, r, h => by simp at h; subst h; exact ⟨rfl, rfl, rfl, rfl⟩
  | x :: s, j + 1, r, h => by
    obtain ⟨a, b, c, d⟩ := cellsI_at (R := s) (j := j) (r := r) (by simpa using h)
    rw [cellsI_cons, show (j + 1) * 4 = j * 4 + 1 + 1 + 1 + 1 from by omega]
    refine ⟨by simpa using a, ?_, ?_, ?_⟩
    · rw [show j * 4 + 1 + 1 + 1 + 1 + 1 = (j * 4 + 1) + 1 + 1 + 1 + 1 from rfl]; simpa using b
    · rw [show j * 4 + 1 + 1 + 1 + 1 + 2 = (j * 4 + 2) + 1 + 1 + 1 + 1 from rfl]; simpa using c
    · rw [show j * 4 + 1 + 1 + 1 + 1 + 3 = (j * 4 + 3) + 1 + 1 + 1 + 1 from rfl]; simpa using d
theorem cellsI_get : ∀ {R : List Inp} {j : Nat} {u : Value}, (cellsI R)[j]? = some u → ∃ i r, R[i]? = some r ∧ ((j = i * 4 ∧ u = .string r.1) ∨ (j = i * 4 + 1 ∧ u = .int .i64 r.2.1) ∨ (j = i * 4 + 2 ∧ u = .int .u64 r.2.2.1) ∨ (j = i * 4 + 3 ∧ u = .int .i64 r.2.2.2))
  | [], j, u, h => by simp [cellsI] at h
  | r :: s, 0, u, h => ⟨0, r, rfl, .inl ⟨rfl, (Option.some.inj h).symm⟩⟩
  | r :: s, 1, u, h => ⟨0, r, rfl, .inr (.inl ⟨rfl, (Option.some.inj h).symm⟩)⟩
  | r :: s, 2, u, h => ⟨0, r, rfl, .inr (.inr (.inl ⟨rfl, (Option.some.inj h).symm⟩))⟩
  | r :: s, 3, u, h => ⟨0, r, rfl, .inr (.inr (.inr ⟨rfl, (Option.some.inj h).symm⟩))⟩
  | r :: s, j + 4, u, h => by
    rw [cellsI_cons] at h
    obtain ⟨i, x, hx, hh⟩ := cellsI_get (R := s) (j := j) (u := u) (by simpa using h)
    refine ⟨i + 1, x, by simpa using hx, ?_⟩
    rcases hh with ⟨h1, h2⟩ | ⟨h1, h2⟩ | ⟨h1, h2⟩ | ⟨h1, h2⟩
    · exact .inl ⟨by omega, h2⟩
    · exact .inr (.inl ⟨by omega, h2⟩)
    · exact .inr (.inr (.inl ⟨by omega, h2⟩))
    · exact .inr (.inr (.inr ⟨by omega, h2⟩))
theorem cellsI_set3 : ∀ (R : List Inp) (j : Nat) (r : Inp) (v : Int), R[j]? = some r → (cellsI R).set (j * 4 + 3) (.int .i64 v) = cellsI (R.set j (r.1, r.2.1, r.2.2.1, v))
  | [], j, r, v, h => by simp at h
  | x :: s, 0, r, v, h => by simp at h; subst h; rfl
  | x :: s, j + 1, r, v, h => by
    have ih := cellsI_set3 s j r v (by simpa using h)
    rw [cellsI_cons, show (j + 1) * 4 + 3 = (j * 4 + 3) + 1 + 1 + 1 + 1 from by omega, List.set_cons_succ, List.set_cons_succ, List.set_cons_succ, List.set_cons_succ, ih, List.set_cons_succ, cellsI_cons]

/-- The slice value '.slice A n c' reads as these inputs. -/
def RdN (w : World) (A : Option Addr) (n c : Nat) (L : List Inp) : Prop :=
  L.length = n ∧ n ≤ c ∧ c ≤ maxLen ∧ ∀ (j : Nat) (r : Inp), L[j]? = some r → ∃ b o, A = some ⟨b, o, none⟩ ∧ w.cell? ⟨b, o + j * 4, none⟩ = some (.string r.1) ∧ w.cell? ⟨b, o + j * 4 + 1, none⟩ = some (.int .i64 r.2.1) ∧ w.cell? ⟨b, o + j * 4 + 2, none⟩ = some (.int .u64 r.2.2.1) ∧ w.cell? ⟨b, o + j * 4 + 3, none⟩ = some (.int .i64 r.2.2.2)
/-- v is a row of inputs of the call's own (blocks from base on), which holds R. -/
def OwnN (w : World) (base : Nat) (v : Value) (R : List Inp) : Prop := w.ownsRow base 51 4 v R.length (cellsI R)

section
variable {w w' : World} {A : Option Addr} {n c base : Nat} {v : Value} {R L : List Inp}
theorem RdN.len (h : RdN w A n c L) : L.length = n := h.1
theorem RdN.cap (h : RdN w A n c L) : n ≤ c := h.2.1
theorem RdN.max (h : RdN w A n c L) : c ≤ 9223372036854775807 := h.2.2.1
theorem RdN.at_ (h : RdN w A n c L) {k : Nat} (hk : k < n) :
    ∃ b o s t x y, A = some ⟨b, o, none⟩ ∧ L[k]? = some (s, t, x, y) ∧ b < w.heap.size ∧ w.cell? ⟨b, o + k * 4, none⟩ = some (.string s) ∧ w.cell? ⟨b, o + k * 4 + 1, none⟩ = some (.int .i64 t) ∧ w.cell? ⟨b, o + k * 4 + 2, none⟩ = some (.int .u64 x) ∧ w.cell? ⟨b, o + k * 4 + 3, none⟩ = some (.int .i64 y) := by
  have hkR : k < L.length := by rw [h.1]; exact hk
  have hr : L[k]? = some L[k] := List.getElem?_eq_getElem hkR
  obtain ⟨b, o, hA, c0, c1, c2, c3⟩ := h.2.2.2 k _ hr
  exact ⟨b, o, _, _, _, _, hA, hr, World.block_lt_of_cell? _ _ c0, c0, c1, c2, c3⟩
theorem RdN.below (h : RdN w A n c L) (hb : Below w.heap.size w w') : RdN w' A n c L :=
  ⟨h.1, h.2.1, h.2.2.1, fun j r hr => by
    obtain ⟨b, o, hA, c0, c1, c2, c3⟩ := h.2.2.2 j r hr
    have hk := fun (a : Addr) (v : Value) (hc : w.cell? a = some v) => (hb.cell (World.block_lt_of_cell? _ a hc)).trans hc
    exact ⟨b, o, hA, hk _ _ c0, hk _ _ c1, hk _ _ c2, hk _ _ c3⟩⟩
theorem RdN.alloc (h : RdN w A n c L) (o : Obj) : RdN (w.alloc o) A n c L := h.below ((Below.refl _ _).alloc (Nat.le_refl _) o)
theorem RdN.drewN (h : RdN w A n c L) (k : Nat) : RdN (w.drewN k) A n c L := h
theorem OwnN.nil (w : World) (base : Nat) : OwnN w base (.slice none 0 0) [] := World.ownsRow_nil w base _ 4
theorem OwnN.alloc (h : OwnN w base v R) (o : Obj) : OwnN (w.alloc o) base v R := World.ownsRow.alloc h o
theorem OwnN.lt (h : OwnN w base v R) : ∀ k, v.ownBlock = some k → base ≤ k ∧ k < w.heap.size := World.ownsRow.lt h
theorem OwnN.below (h : OwnN w base v R) (hb : Below w.heap.size w w') : OwnN w' base v R :=
  World.ownsRow.kept h (row := none) ⟨hb.os, hb.tape, hb.output, hb.size, fun k hk _ => hb.block k hk⟩ (by cases h : v.ownBlock <;> simp)
theorem OwnN.grown {row : Option Nat} (h : OwnN w base v R) (hg : w.grownBy w' row) (hr : v.ownBlock = none ∨ v.ownBlock ≠ row) : OwnN w' base v R := World.ownsRow.kept h (row := row) hg hr
theorem OwnN.weaken {base' : Nat} (h : OwnN w base v R) (hb : base' ≤ base) : OwnN w base' v R := by
  refine ⟨h.1, ?_⟩
  rcases h.2 with h' | ⟨g, cap, cur, h1, h2, h3⟩
  · exact .inl h'
  · exact .inr ⟨g, cap, cur, h1, by omega, h3⟩
/-- What is owned reads. -/
theorem OwnN.form (h : OwnN w base v R) (hn : R.length = n) : ∃ A c, v = .slice A n c ∧ RdN w A n c R := by
  subst hn
  rcases h.2 with ⟨rfl, hn⟩ | ⟨g, cap, cur, rfl, hbg, hg, hnc, hcm, hcs, htake⟩
  · have hl : R = [] := List.eq_nil_of_length_eq_zero hn
    subst hl
    exact ⟨none, 0, rfl, rfl, Nat.le_refl _, by simp [maxLen], fun j r hr => by simp at hr⟩
  · refine ⟨_, cap, rfl, rfl, hnc, hcm, fun j r hr => ?_⟩
    obtain ⟨a, b, d, e⟩ := cellsI_at hr
    have hc := fun j u (hu : (cellsI R)[j]? = some u) => World.ownsRow.cells h (g := g) rfl j u hu
    refine ⟨g, 0, rfl, ?_, ?_, ?_, ?_⟩
    · have := hc _ _ a; rw [Addr.add_lit] at this; exact this
    · have := hc _ _ b; rw [Addr.add_lit] at this; rw [Nat.add_assoc]; exact this
    · have := hc _ _ d; rw [Addr.add_lit] at this; rw [Nat.add_assoc]; exact this
    · have := hc _ _ e; rw [Addr.add_lit] at this; rw [Nat.add_assoc]; exact this
theorem OwnN.len {A : Option Addr} (h : OwnN w base (.slice A n c) R) : R.length = n := by
  rcases h.2 with ⟨h, hn⟩ | ⟨g, cap, cur, h, _⟩
  · injection h with _ h2 _; omega
  · injection h with _ h2 _; omega
theorem OwnN.reads {A : Option Addr} (h : OwnN w base (.slice A n c) R) : RdN w A n c R := by
  obtain ⟨A', c', e, hr⟩ := h.form h.len
  injection e with e1 e2 e3
  subst e1 e3
  exact hr
theorem Below.appN {B : Nat} {w0 : World} (h : Below B w0 w) (hown : OwnN w base v R) (hg : w.grownBy w' v.ownBlock) (hB : B ≤ w.heap.size) (hbase : B ≤ base) : Below B w0 w' :=
  h.grown hg hB fun k hk => by have := hown.lt k hk; omega
theorem OwnN.store {g : Nat} (h : OwnN w base (.slice (some ⟨g, 0, none⟩) n c) R) {j : Nat} {r : Inp} (hj : R[j]? = some r) (y : Int) :
    OwnN (w.setCell ⟨g, j * 4 + 3, none⟩ (.int .i64 y)) base (.slice (some ⟨g, 0, none⟩) n c) (R.set j (r.1, r.2.1, r.2.2.1, y)) := by
  obtain rfl := h.len
  unfold OwnN
  rw [List.length_set, ← cellsI_set3 R j r y hj]
  exact (World.ownsRow.stored h (j * 4 + 3) _).1
theorem OwnN.free {g : Nat} (h : OwnN w base (.slice (some ⟨g, 0, none⟩) n c) R) (k : Nat) : w.frozen? ⟨g, k, none⟩ = false := by
  obtain rfl := h.len
  exact World.ownsRow.frozenAt h k
end
/-- A row of zero inputs, as make gives it. -/
theorem OwnN.made {w : World} {base g n : Nat} (h : w.ownsRow base 51 4 (.slice (some ⟨g, 0, none⟩) n n) n (madeCells (Value.agg #[.string ⟨#[]⟩, .int .i64 0, .int .u64 0, .int .i64 0]).cells (n * 4)).toList) :
    OwnN w base (.slice (some ⟨g, 0, none⟩) n n) (List.replicate n (⟨#[]⟩, 0, 0, 0)) := by
  have e : (madeCells (Value.agg #[.string ⟨#[]⟩, .int .i64 0, .int .u64 0, .int .i64 0]).cells (n * 4)).toList = cellsI (List.replicate n (⟨#[]⟩, 0, 0, 0)) := by
    apply List.ext_getElem?
    intro i
    rcases Nat.lt_or_ge i (n * 4) with hi | hi
    · have hl : (madeCells (Value.agg #[.string ⟨#[]⟩, .int .i64 0, .int .u64 0, .int .i64 0]).cells (n * 4)).toList[i]? = some ((Value.agg #[.string ⟨#[]⟩, .int .i64 0, .int .u64 0, .int .i64 0]).cells[i % 4]!) := by
        simp only [madeCells, Array.toList_map, List.getElem?_map, Array.toList_range, List.getElem?_range hi]
        rfl
      have hr : (List.replicate n ((⟨#[]⟩, 0, 0, 0) : Inp))[i / 4]? = some (⟨#[]⟩, 0, 0, 0) := by
        rw [List.getElem?_replicate, if_pos (by omega)]
      obtain ⟨a, b, c, d⟩ := cellsI_at hr
      rw [hl]
      have h4 : i % 4 < 4 := Nat.mod_lt _ (by omega)
      match hm : i % 4, h4 with
      | 0, _ => rw [show i = i / 4 * 4 by omega, a]; rfl
      | 1, _ => rw [show i = i / 4 * 4 + 1 by omega, b]; rfl
      | 2, _ => rw [show i = i / 4 * 4 + 2 by omega, c]; rfl
      | 3, _ => rw [show i = i / 4 * 4 + 3 by omega, d]; rfl
    · rw [List.getElem?_eq_none (by rw [Array.length_toList, size_madeCells]; exact hi), List.getElem?_eq_none (by rw [cellsI_length, List.length_replicate]; exact hi)]
  unfold OwnN
  rw [List.length_replicate, ← e]
  exact h

theorem info_input : (Try.prog.info? 51).map (fun i => (i.zero, i.size, i.bytes)) = some (some (.agg #[.string ⟨#[]⟩, .int .i64 0, .int .u64 0, .int .i64 0]), 4, 40) := by kernel_rfl
section
variable {w : World}
/-- append of inputs that read onto an owned row: the run. -/
theorem run_appN (base : Nat) (ty : TypeId) (v : Value) (R : List Inp) (hown : OwnN w base v R) (A : Option Addr) (m c : Nat) (S : List Inp) (hr : RdN w A m c S)
    (hbytes : R.length + m ≤ 1000000) (hbase : base ≤ w.heap.size) :
    ∃ v' w', (Builtin.append_ #[43, 43] ty #[v, .slice A m c]).run Try.prog w = .ok v' w' ∧ OwnN w' base v' (R ++ S) ∧ w.grownBy w' v.ownBlock := by
  obtain ⟨i0, hi0, hz0, hz1, hz2⟩ := info_parts info_input
  have hlen := hr.1
  cases A with
  | none =>
    have hx : S = [] := by
      cases S with
      | nil => rfl
      | cons z q =>
        obtain ⟨b, o, h, _⟩ := hr.2.2.2 0 z (by simp)
        cases h
    subst hx
    simp at hlen
    subst hlen
    refine ⟨v, w, ?_, by simpa using hown, World.grownBy.refl _ _⟩
    rcases hown.2 with ⟨rfl, _⟩ | ⟨g, cap, cur, rfl, _, _, hnc, _⟩
    · simp [Builtin.append_, run_underlying Try.underlying43, sizeOf, typeInfo, hi0, Builtin.lenOf, Builtin.firstCells]
    · simp [Builtin.append_, run_underlying Try.underlying43, sizeOf, typeInfo, hi0, Builtin.lenOf, Builtin.firstCells, hnc, storeCells]
  | some ad =>
    have hcells : ∀ j u, (cellsI S)[j]? = some u → w.cell? (ad.add j) = some u := by
      intro j u hu
      obtain ⟨i, r, hi, hh⟩ := cellsI_get hu
      obtain ⟨b, o, h, h0, h1, h2, h3⟩ := hr.2.2.2 i r hi
      obtain rfl := Option.some.inj h
      rw [Addr.add_lit]
      rcases hh with ⟨rfl, rfl⟩ | ⟨rfl, rfl⟩ | ⟨rfl, rfl⟩ | ⟨rfl, rfl⟩
      · exact h0
      · exact h1
      · exact h2
      · exact h3
    obtain ⟨v', w', hrun, h2, h3, _, _⟩ := run_append_own_at (P := Try.prog) w base 43 ty 51 i0 _ 4 40 Try.underlying43 hi0 hz0 hz1 hz2 rfl (by omega) v _ _ hown ad m c (cellsI S)
      (by rw [cellsI_length, hlen]) hcells (fun u hu => cellsI_mem hu) (by simp only [maxLen]; omega) (by omega) hbase
    refine ⟨v', w', hrun, ?_, h3⟩
    unfold OwnN
    rw [cellsI_append, List.length_append, hlen]
    exact h2
theorem wpList_appN {ops : Array Oper} {rest : List Oper} {o : Oper} {a : Act} {Q : Exit → Act → World → Prop} (hgd : o.guard = none) (s x : Operand)
    (ho : o.op = .call { callee := .builtin .append, args := #[s, x], argTypes := #[43, 43] })
    (base : Nat) (v : Value) (R : List Inp) (hs : a.eval s = v) (A : Option Addr) (m c : Nat) (S : List Inp) (hx : a.eval x = .slice A m c)
    (hown : OwnN w base v R) (hr : RdN w A m c S) (hbytes : R.length + m ≤ 1000000) (hbase : base ≤ w.heap.size)
    (h : ∀ v' w', OwnN w' base v' (R ++ S) → w.grownBy w' v.ownBlock → wpList Try.prog ops Q rest (a.put o.dst v') w') :
    wpList Try.prog ops Q (o :: rest) a w :=
  wpList_plain hgd fun K hK => by
    obtain ⟨v', w', hr, h2, h3⟩ := run_appN base o.type v R hown A m c S hr hbytes hbase
    unfold Oper.wp execOp
    simp only [ho, resolve, invoke, builtin, Sem.run_bind, Sem.run_pure, Result.andThen_ok, List.map_toArray, List.map_cons, List.map_nil, hs, hx, hr]
    exact hK _ _ (h v' w' h2 h3)
/-- A literal slice of one input. -/
theorem RdN.one' {h : Nat} (s : ByteArray) (t x y : Int) (e : h = w.heap.size) : RdN (w.alloc (.cells #[.string s, .int .i64 t, .int .u64 x, .int .i64 y] 51)) (some ⟨h, 0, none⟩) 1 1 [(s, t, x, y)] := by
  subst e
  refine ⟨rfl, Nat.le_refl _, by simp [maxLen], fun j r hr => ?_⟩
  cases j with
  | zero =>
    simp at hr; subst hr
    exact ⟨_, _, rfl, by rw [World.cell?_alloc_at _ _ _ _ rfl]; rfl, by rw [World.cell?_alloc_at _ _ _ _ rfl]; rfl, by rw [World.cell?_alloc_at _ _ _ _ rfl]; rfl, by rw [World.cell?_alloc_at _ _ _ _ rfl]; rfl⟩
  | succ j => simp at hr
theorem OwnN.one' {h base : Nat} (s : ByteArray) (t x y : Int) (e : h = w.heap.size) (hb : base ≤ w.heap.size) : OwnN (w.alloc (.cells #[.string s, .int .i64 t, .int .u64 x, .int .i64 y] 51)) base (.slice (some ⟨h, 0, none⟩) 1 1) [(s, t, x, y)] := by
  subst e
  exact ⟨rfl, .inr ⟨w.heap.size, 1, #[.string s, .int .i64 t, .int .u64 x, .int .i64 y], rfl, hb, heap_alloc_new w _, Nat.le_refl _, by simp [maxLen], rfl, rfl⟩⟩
end
end Go.Proofs.Ytoaijnpkenflbaa
