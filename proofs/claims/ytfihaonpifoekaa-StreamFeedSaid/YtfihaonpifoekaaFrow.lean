/- Words for rows of events: a slice that reads as events, a row of events of the call's own, and append onto one. Conditions: none beyond those typed. -/
import Derived.Test.YtfihaonpifoekaaFmath
import Derived.Test.YtfihaonpifoekaaEmade
namespace Go.Proofs.Ytfihaonpifoekaa
open Go.ChangeShapes Go.WideShapes Go.ChangeAt Go.RowKit
set_option linter.unusedVariables false
set_option linter.unusedSimpArgs false
set_option maxRecDepth 100000

/-- The cells of an event: its slice of tags (address, length, capacity), its time, its weight. -/
abbrev RawE := Option Addr × Nat × Nat × Int × Int
def cellsE (R : List RawE) : List Value := R.flatMap fun r => [.slice r.1 r.2.1 r.2.2.1, .int .i64 r.2.2.2.1, .int .u64 r.2.2.2.2]
theorem cellsE_length : ∀ R : List RawE, (cellsE R).length = R.length * 3
  | [] => rfl
  | r :: s => by
    have e : cellsE (r :: s) = .slice r.1 r.2.1 r.2.2.1 :: .int .i64 r.2.2.2.1 :: .int .u64 r.2.2.2.2 :: cellsE s := rfl
    rw [e, List.length_cons, List.length_cons, List.length_cons, cellsE_length s, List.length_cons]
    omega
theorem cellsE_append (R S : List RawE) : cellsE (R ++ S) = cellsE R ++ cellsE S := by simp [cellsE]
theorem cellsE_mem : ∀ {R : List RawE} {u : Value}, u ∈ cellsE R → u.oneCell' = true
  | [], u, h => by simp [cellsE] at h
  | r :: s, u, h => by
    have e : cellsE (r :: s) = .slice r.1 r.2.1 r.2.2.1 :: .int .i64 r.2.2.2.1 :: .int .u64 r.2.2.2.2 :: cellsE s := rfl
    rw [e] at h
    rcases List.mem_cons.1 h with rfl | h
    · rfl
    · rcases List.mem_cons.1 h with rfl | h
      · rfl
      · rcases List.mem_cons.1 h with rfl | h
        · rfl
        · exact cellsE_mem h
theorem cellsE_at : ∀ {R : List RawE} {j : Nat} {r : RawE}, R[j]? = some r → (cellsE R)[j * 3]? = some (.slice r.1 r.2.1 r.2.2.1) ∧ (cellsE R)[j * 3 + 1]? = some (.int .i64 r.2.2.2.1) ∧ (cellsE R)[j * 3 + 2]? = some (.int .u64 r.2.2.2.2)
  | [], j, r, h => by simp at h
  | x :: s, 0, r, h => by simp at h; subst h; exact ⟨rfl, rfl, rfl⟩
  | x :: s, j + 1, r, h => by
    have e : cellsE (x :: s) = .slice x.1 x.2.1 x.2.2.1 :: .int .i64 x.2.2.2.1 :: .int .u64 x.2.2.2.2 :: cellsE s := rfl
    obtain ⟨a, b, c⟩ := cellsE_at (R := s) (j := j) (r := r) (by simpa using h)
    have e0 : (j + 1) * 3 = j * 3 + 1 + 1 + 1 := by omega
    rw [e, e0]
    refine ⟨by simpa using a, ?_, ?_⟩
    · rw [show j * 3 + 1 + 1 + 1 + 1 = (j * 3 + 1) + 1 + 1 + 1 from rfl]; simpa using b
    · rw [show j * 3 + 1 + 1 + 1 + 2 = (j * 3 + 2) + 1 + 1 + 1 from rfl]; simpa using c
theorem cellsE_get : ∀ {R : List RawE} {j : Nat} {u : Value}, (cellsE R)[j]? = some u → ∃ i r, R[i]? = some r ∧ ((j = i * 3 ∧ u = .slice r.1 r.2.1 r.2.2.1) ∨ (j = i * 3 + 1 ∧ u = .int .i64 r.2.2.2.1) ∨ (j = i * 3 + 2 ∧ u = .int .u64 r.2.2.2.2))
  | [], j, u, h => by simp [cellsE] at h
  | r :: s, 0, u, h => ⟨0, r, rfl, .inl ⟨rfl, (Option.some.inj h).symm⟩⟩
  | r :: s, 1, u, h => ⟨0, r, rfl, .inr (.inl ⟨rfl, (Option.some.inj h).symm⟩)⟩
  | r :: s, 2, u, h => ⟨0, r, rfl, .inr (.inr ⟨rfl, (Option.some.inj h).symm⟩)⟩
  | r :: s, j + 3, u, h => by
    have e : cellsE (r :: s) = .slice r.1 r.2.1 r.2.2.1 :: .int .i64 r.2.2.2.1 :: .int .u64 r.2.2.2.2 :: cellsE s := rfl
    rw [e] at h
    obtain ⟨i, x, hx, hh⟩ := cellsE_get (R := s) (j := j) (u := u) (by simpa using h)
    refine ⟨i + 1, x, by simpa using hx, ?_⟩
    rcases hh with ⟨h1, h2⟩ | ⟨h1, h2⟩ | ⟨h1, h2⟩
    · exact .inl ⟨by omega, h2⟩
    · exact .inr (.inl ⟨by omega, h2⟩)
    · exact .inr (.inr ⟨by omega, h2⟩)

/-- The raw events read as these. -/
def Tells (w : World) (R : List RawE) (L : List Ev) : Prop :=
  R.length = L.length ∧ ∀ (j : Nat) (r : RawE) (e : Ev), R[j]? = some r → L[j]? = some e → RdT w r.1 r.2.1 r.2.2.1 e.1 ∧ r.2.1 ≤ 1000 ∧ r.2.2.2.1 = e.2.1 ∧ r.2.2.2.2 = e.2.2
/-- The slice value '.slice A n c' holds these raw events. -/
def RawAt (w : World) (A : Option Addr) (n c : Nat) (R : List RawE) : Prop :=
  R.length = n ∧ n ≤ c ∧ c ≤ maxLen ∧ ∀ (j : Nat) (r : RawE), R[j]? = some r → ∃ b o, A = some ⟨b, o, none⟩ ∧ w.cell? ⟨b, o + j * 3, none⟩ = some (.slice r.1 r.2.1 r.2.2.1) ∧ w.cell? ⟨b, o + j * 3 + 1, none⟩ = some (.int .i64 r.2.2.2.1) ∧ w.cell? ⟨b, o + j * 3 + 2, none⟩ = some (.int .u64 r.2.2.2.2)
/-- The slice value '.slice A n c' reads as these events. -/
def RdE (w : World) (A : Option Addr) (n c : Nat) (L : List Ev) : Prop := ∃ R, RawAt w A n c R ∧ Tells w R L
/-- v is a row of events of the call's own (blocks from base on), which holds R. -/
def OwnE (w : World) (base : Nat) (v : Value) (R : List RawE) : Prop := w.ownsRow base 66 3 v R.length (cellsE R)

section
variable {w w' : World} {A : Option Addr} {n c base : Nat} {v : Value} {R : List RawE} {L : List Ev}
theorem Tells.below (h : Tells w R L) (hb : Below w.heap.size w w') : Tells w' R L :=
  ⟨h.1, fun j r e hr he => by
    obtain ⟨a, b⟩ := h.2 j r e hr he
    exact ⟨a.below hb, b⟩⟩
theorem Tells.nil (w : World) : Tells w [] [] := ⟨rfl, fun j r e h => by simp at h⟩
theorem Tells.snoc {r : RawE} {e : Ev} (h : Tells w R L) (hr : RdT w r.1 r.2.1 r.2.2.1 e.1) (hn : r.2.1 ≤ 1000) (ht : r.2.2.2.1 = e.2.1) (hx : r.2.2.2.2 = e.2.2) : Tells w (R ++ [r]) (L ++ [e]) := by
  refine ⟨by simp [h.1], fun j s f hs hf => ?_⟩
  rcases Nat.lt_or_ge j R.length with hj | hj
  · rw [List.getElem?_append_left hj] at hs
    rw [List.getElem?_append_left (by rw [← h.1]; exact hj)] at hf
    exact h.2 j s f hs hf
  · rw [List.getElem?_append_right hj] at hs
    rw [List.getElem?_append_right (by rw [← h.1]; exact hj)] at hf
    rw [← h.1] at hf
    generalize j - R.length = q at hs hf
    cases q with
    | zero =>
      simp at hs hf
      subst hs hf
      exact ⟨hr, hn, ht, hx⟩
    | succ q => simp at hs
theorem RawAt.below (h : RawAt w A n c R) (hb : Below w.heap.size w w') : RawAt w' A n c R :=
  ⟨h.1, h.2.1, h.2.2.1, fun j r hr => by
    obtain ⟨b, o, hA, c0, c1, c2⟩ := h.2.2.2 j r hr
    have hk := fun (a : Addr) (v : Value) (hc : w.cell? a = some v) => (hb.cell (World.block_lt_of_cell? _ a hc)).trans hc
    exact ⟨b, o, hA, hk _ _ c0, hk _ _ c1, hk _ _ c2⟩⟩
theorem RdE.below (h : RdE w A n c L) (hb : Below w.heap.size w w') : RdE w' A n c L := by
  obtain ⟨R, h1, h2⟩ := h
  exact ⟨R, h1.below hb, h2.below hb⟩
theorem RdE.len (h : RdE w A n c L) : L.length = n := by
  obtain ⟨R, h1, h2⟩ := h
  rw [← h2.1]; exact h1.1
theorem RdE.cap (h : RdE w A n c L) : n ≤ c := by obtain ⟨R, h1, _⟩ := h; exact h1.2.1
theorem RdE.max (h : RdE w A n c L) : c ≤ 9223372036854775807 := by obtain ⟨R, h1, _⟩ := h; exact h1.2.2.1
theorem RdE.at_ (h : RdE w A n c L) {k : Nat} (hk : k < n) :
    ∃ b o A' n' c' l t x, A = some ⟨b, o, none⟩ ∧ L[k]? = some (l, t, x) ∧ b < w.heap.size ∧ w.cell? ⟨b, o + k * 3, none⟩ = some (.slice A' n' c') ∧ w.cell? ⟨b, o + k * 3 + 1, none⟩ = some (.int .i64 t) ∧ w.cell? ⟨b, o + k * 3 + 2, none⟩ = some (.int .u64 x) ∧
      RdT w A' n' c' l ∧ n' ≤ 1000 := by
  have hln := h.len
  obtain ⟨R, h1, h2⟩ := h
  have hkR : k < R.length := by rw [h1.1]; exact hk
  have hkL : k < L.length := by rw [hln]; exact hk
  have hr : R[k]? = some R[k] := List.getElem?_eq_getElem hkR
  have he : L[k]? = some L[k] := List.getElem?_eq_getElem hkL
  obtain ⟨b, o, hA, c0, c1, c2⟩ := h1.2.2.2 k _ hr
  obtain ⟨a1, a2, a3, a4⟩ := h2.2 k _ _ hr he
  refine ⟨b, o, _, _, _, L[k].1, L[k].2.1, L[k].2.2, hA, he, World.block_lt_of_cell? _ _ c0, c0, ?_, ?_, a1, a2⟩
  · rw [c1, a3]
  · rw [c2, a4]
theorem OwnE.nil (w : World) (base : Nat) : OwnE w base (.slice none 0 0) [] := World.ownsRow_nil w base _ 3
theorem OwnE.alloc (h : OwnE w base v R) (o : Obj) : OwnE (w.alloc o) base v R := World.ownsRow.alloc h o
theorem OwnE.lt (h : OwnE w base v R) : ∀ k, v.ownBlock = some k → base ≤ k ∧ k < w.heap.size := World.ownsRow.lt h
theorem OwnE.grown {row : Option Nat} (h : OwnE w base v R) (hg : w.grownBy w' row) (hr : ∀ k, row = some k → k < base) : OwnE w' base v R := by
  refine World.ownsRow.kept h (row := row) hg ?_
  cases hv : v.ownBlock with
  | none => exact .inl rfl
  | some k => exact .inr fun e => by have := (OwnE.lt h k hv).1; have := hr k e.symm; omega
theorem OwnE.kept (h : OwnE w base v R) (hb : Below w.heap.size w w') : OwnE w' base v R :=
  World.ownsRow.kept h (row := none) ⟨hb.os, hb.tape, hb.output, hb.size, fun k hk _ => hb.block k hk⟩ (by cases h : v.ownBlock <;> simp)
/-- What is owned holds its raw events. -/
theorem OwnE.form (h : OwnE w base v R) (hn : R.length = n) : ∃ A c, v = .slice A n c ∧ RawAt w A n c R := by
  subst hn
  rcases h.2 with ⟨rfl, hn⟩ | ⟨g, cap, cur, rfl, hbg, hg, hnc, hcm, hcs, htake⟩
  · have hl : R = [] := List.eq_nil_of_length_eq_zero hn
    subst hl
    exact ⟨none, 0, rfl, rfl, Nat.le_refl _, by simp [maxLen], fun j r hr => by simp at hr⟩
  · refine ⟨_, cap, rfl, rfl, hnc, hcm, fun j r hr => ?_⟩
    obtain ⟨a, b, d⟩ := cellsE_at hr
    have hc := fun j u (hu : (cellsE R)[j]? = some u) => World.ownsRow.cells h (g := g) rfl j u hu
    refine ⟨g, 0, rfl, ?_, ?_, ?_⟩
    · have := hc _ _ a; rw [Addr.add_lit] at this; exact this
    · have := hc _ _ b; rw [Addr.add_lit] at this; rw [Nat.add_assoc]; exact this
    · have := hc _ _ d; rw [Addr.add_lit] at this; rw [Nat.add_assoc]; exact this
end

theorem info_event : (Try.prog.info? 66).map (fun i => (i.zero, i.size, i.bytes)) = some (some (.agg #[.slice none 0 0, .int .i64 0, .int .u64 0]), 3, 40) := by kernel_rfl
section
variable {w : World}
/-- append of events that are held onto an owned row: the run. -/
theorem run_appE (base : Nat) (ty : TypeId) (v : Value) (R : List RawE) (hown : OwnE w base v R) (A : Option Addr) (m c : Nat) (S : List RawE) (hr : RawAt w A m c S)
    (hbytes : R.length + m ≤ 1000000) (hbase : base ≤ w.heap.size) :
    ∃ v' w', (Builtin.append_ #[52, 52] ty #[v, .slice A m c]).run Try.prog w = .ok v' w' ∧ OwnE w' base v' (R ++ S) ∧ w.grownBy w' v.ownBlock ∧ (v'.ownBlock = v.ownBlock ∨ v'.ownBlock = some w.heap.size) := by
  obtain ⟨i0, hi0, hz0, hz1, hz2⟩ := info_parts info_event
  have hlen := hr.1
  cases A with
  | none =>
    have hx : S = [] := by
      cases S with
      | nil => rfl
      | cons z q =>
        obtain ⟨b, o, h, _⟩ := hr.2.2.2 0 z (by simp)
        cases h
    subst hx
    simp at hlen
    subst hlen
    refine ⟨v, w, ?_, by simpa using hown, World.grownBy.refl _ _, .inl rfl⟩
    rcases hown.2 with ⟨rfl, _⟩ | ⟨g, cap, cur, rfl, _, _, hnc, _⟩
    · simp [Builtin.append_, run_underlying Try.underlying52, sizeOf, typeInfo, hi0, Builtin.lenOf, Builtin.firstCells]
    · simp [Builtin.append_, run_underlying Try.underlying52, sizeOf, typeInfo, hi0, Builtin.lenOf, Builtin.firstCells, hnc, storeCells]
  | some ad =>
    have hcells : ∀ j u, (cellsE S)[j]? = some u → w.cell? (ad.add j) = some u := by
      intro j u hu
      obtain ⟨i, r, hi, hh⟩ := cellsE_get hu
      obtain ⟨b, o, h, h0, h1, h2⟩ := hr.2.2.2 i r hi
      obtain rfl := Option.some.inj h
      rw [Addr.add_lit]
      rcases hh with ⟨rfl, rfl⟩ | ⟨rfl, rfl⟩ | ⟨rfl, rfl⟩
      · exact h0
      · exact h1
      · exact h2
    obtain ⟨v', w', hrun, h2, h3, _, h5⟩ := run_append_own_at (P := Try.prog) w base 52 ty 66 i0 _ 3 40 Try.underlying52 hi0 hz0 hz1 hz2 rfl (by omega) v _ _ hown ad m c (cellsE S)
      (by rw [cellsE_length, hlen]) hcells (fun u hu => cellsE_mem hu) (by simp only [maxLen]; omega) (by omega) hbase
    refine ⟨v', w', hrun, ?_, h3, h5⟩
    unfold OwnE
    rw [cellsE_append, List.length_append, hlen]
    exact h2
theorem wpList_appE {ops : Array Oper} {rest : List Oper} {o : Oper} {a : Act} {Q : Exit → Act → World → Prop} (hgd : o.guard = none) (s x : Operand)
    (ho : o.op = .call { callee := .builtin .append, args := #[s, x], argTypes := #[52, 52] })
    (base : Nat) (v : Value) (R : List RawE) (hs : a.eval s = v) (A : Option Addr) (m c : Nat) (S : List RawE) (hx : a.eval x = .slice A m c)
    (hown : OwnE w base v R) (hr : RawAt w A m c S) (hbytes : R.length + m ≤ 1000000) (hbase : base ≤ w.heap.size)
    (h : ∀ v' w', OwnE w' base v' (R ++ S) → w.grownBy w' v.ownBlock → (v'.ownBlock = v.ownBlock ∨ v'.ownBlock = some w.heap.size) → wpList Try.prog ops Q rest (a.put o.dst v') w') :
    wpList Try.prog ops Q (o :: rest) a w :=
  wpList_plain hgd fun K hK => by
    obtain ⟨v', w', hr, h2, h3, h4⟩ := run_appE base o.type v R hown A m c S hr hbytes hbase
    unfold Oper.wp execOp
    simp only [ho, resolve, invoke, builtin, Sem.run_bind, Sem.run_pure, Result.andThen_ok, List.map_toArray, List.map_cons, List.map_nil, hs, hx, hr]
    exact hK _ _ (h v' w' h2 h3 h4)
theorem step_appE {ops : Array Oper} {o : Oper} {a : Act} {K : Act → World → Prop} {Q : Exit → Act → World → Prop} {E : Prop} (hgd : o.guard = none) (s x : Operand)
    (ho : o.op = .call { callee := .builtin .append, args := #[s, x], argTypes := #[52, 52] })
    (base : Nat) (v : Value) (R : List RawE) (hs : a.eval s = v) (A : Option Addr) (m c : Nat) (S : List RawE) (hx : a.eval x = .slice A m c)
    (hown : OwnE w base v R) (hr : RawAt w A m c S) (hbytes : R.length + m ≤ 1000000) (hbase : base ≤ w.heap.size)
    (h : ∀ v' w', OwnE w' base v' (R ++ S) → w.grownBy w' v.ownBlock → (v'.ownBlock = v.ownBlock ∨ v'.ownBlock = some w.heap.size) → K (a.put o.dst v') w') :
    if Region.wanted o (yielded ops a.tmps) = true then Oper.wp Try.prog o a w K Q else E := by
  have hw : Region.wanted o (yielded ops a.tmps) = true := by simp [Region.wanted, hgd]
  rw [if_pos hw]
  obtain ⟨v', w', hr, h2, h3, h4⟩ := run_appE base o.type v R hown A m c S hr hbytes hbase
  unfold Oper.wp execOp
  simp only [ho, resolve, invoke, builtin, Sem.run_bind, Sem.run_pure, Result.andThen_ok, List.map_toArray, List.map_cons, List.map_nil, hs, hx, hr]
  exact h v' w' h2 h3 h4
/-- A literal slice of one event. -/
theorem RawAt.one' {h : Nat} {r : RawE} (e : h = w.heap.size) : RawAt (w.alloc (.cells #[.slice r.1 r.2.1 r.2.2.1, .int .i64 r.2.2.2.1, .int .u64 r.2.2.2.2] 66)) (some ⟨h, 0, none⟩) 1 1 [r] := by
  subst e
  refine ⟨rfl, Nat.le_refl _, by simp [maxLen], fun j s hs => ?_⟩
  cases j with
  | zero =>
    simp at hs; subst hs
    exact ⟨_, _, rfl, by rw [World.cell?_alloc_at _ _ _ _ rfl]; rfl, by rw [World.cell?_alloc_at _ _ _ _ rfl]; rfl, by rw [World.cell?_alloc_at _ _ _ _ rfl]; rfl⟩
  | succ j => simp at hs
end
end Go.Proofs.Ytfihaonpifoekaa
