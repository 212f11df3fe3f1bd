/- Words for rows of chunks: a slice that reads as chunks, a row of chunks of the call's own, append onto one; the box of a stream; zeros appended to bytes. Conditions: none beyond those typed. -/
import Derived.Test.YtfihaonpifoekaaSmath
import Derived.Test.YtfihaonpifoekaaBmem
import Derived.Lib.AppendZerosOnto
import Derived.Lib.AppendZeros
namespace Go.Proofs.Ytfihaonpifoekaa
open Go.ChangeShapes Go.WideShapes Go.ChangeAt Go.RowKit
set_option linter.unusedVariables false
set_option linter.unusedSimpArgs false
set_option maxRecDepth 100000

/-- The cells of a chunk: its body (address, length, capacity), its verdict. -/
abbrev RawC := Option Addr × Nat × Nat × Int
def cellsC (R : List RawC) : List Value := R.flatMap fun r => [.slice r.1 r.2.1 r.2.2.1, .int .i64 r.2.2.2]
theorem cellsC_cons (r : RawC) (s : List RawC) : cellsC (r :: s) = .slice r.1 r.2.1 r.2.2.1 :: .int .i64 r.2.2.2 :: cellsC s := rfl
theorem cellsC_length : ∀ R : List RawC, (cellsC R).length = R.length * 2
  | [] => rfl
  | r :: s => by
    rw [cellsC_cons, List.length_cons, List.length_cons, cellsC_length s, List.length_cons]
    omega
theorem cellsC_append (R S : List RawC) : cellsC (R ++ S) = cellsC R ++ cellsC S := by simp [cellsC]
theorem cellsC_mem : ∀ {R : List RawC} {u : Value}, u ∈ cellsC R → u.oneCell' = true
  | [], u, h => by simp [cellsC] at h
  | r :: s, u, h => by
    rw [cellsC_cons] at h
    rcases List.mem_cons.1 h with rfl | h
    · rfl
    · rcases List.mem_cons.1 h with rfl | h
      · rfl
      · exact cellsC_mem h
theorem cellsC_at : ∀ {R : List RawC} {j : Nat} {r : RawC}, R[j]? = some r → (cellsC R)[j * 2]? = some (.slice r.1 r.2.1 r.2.2.1) ∧ (cellsC R)[j * 2 + 1]? = some (.int .i64 r.2.2.2)
  | [], j, r, h => by simp at h
  | x :: s, 0, r, h => by simp at h; subst h; exact ⟨rfl, rfl⟩
  | x :: s, j + 1, r, h => by
    obtain ⟨a, b⟩ := cellsC_at (R := s) (j := j) (r := r) (by simpa using h)
    rw [cellsC_cons, show (j + 1) * 2 = j * 2 + 1 + 1 from by omega]
    refine ⟨by simpa using a, ?_⟩
    rw [show j * 2 + 1 + 1 + 1 = (j * 2 + 1) + 1 + 1 from rfl]; simpa using b
theorem cellsC_get : ∀ {R : List RawC} {j : Nat} {u : Value}, (cellsC R)[j]? = some u → ∃ i r, R[i]? = some r ∧ ((j = i * 2 ∧ u = .slice r.1 r.2.1 r.2.2.1) ∨ (j = i * 2 + 1 ∧ u = .int .i64 r.2.2.2))
  | [], j, u, h => by simp [cellsC] at h
  | r :: s, 0, u, h => ⟨0, r, rfl, .inl ⟨rfl, (Option.some.inj h).symm⟩⟩
  | r :: s, 1, u, h => ⟨0, r, rfl, .inr ⟨rfl, (Option.some.inj h).symm⟩⟩
  | r :: s, j + 2, u, h => by
    rw [cellsC_cons] at h
    obtain ⟨i, x, hx, hh⟩ := cellsC_get (R := s) (j := j) (u := u) (by simpa using h)
    refine ⟨i + 1, x, by simpa using hx, ?_⟩
    rcases hh with ⟨h1, h2⟩ | ⟨h1, h2⟩
    · exact .inl ⟨by omega, h2⟩
    · exact .inr ⟨by omega, h2⟩

/-- The raw chunks read as these. -/
def TellsC (w : World) (R : List RawC) (L : List Ck) : Prop :=
  R.length = L.length ∧ ∀ (j : Nat) (r : RawC) (e : Ck), R[j]? = some r → L[j]? = some e → Rd w r.1 r.2.1 r.2.2.1 e.1 ∧ r.2.2.2 = e.2
/-- The slice value '.slice A n c' holds these raw chunks. -/
def RawCt (w : World) (A : Option Addr) (n c : Nat) (R : List RawC) : Prop :=
  R.length = n ∧ n ≤ c ∧ c ≤ maxLen ∧ ∀ (j : Nat) (r : RawC), R[j]? = some r → ∃ b o, A = some ⟨b, o, none⟩ ∧ w.cell? ⟨b, o + j * 2, none⟩ = some (.slice r.1 r.2.1 r.2.2.1) ∧ w.cell? ⟨b, o + j * 2 + 1, none⟩ = some (.int .i64 r.2.2.2)
/-- The slice value '.slice A n c' reads as these chunks. -/
def RdC (w : World) (A : Option Addr) (n c : Nat) (L : List Ck) : Prop := ∃ R, RawCt w A n c R ∧ TellsC w R L
/-- v is a row of chunks of the call's own (blocks from base on), which holds R. -/
def OwnC (w : World) (base : Nat) (v : Value) (R : List RawC) : Prop := w.ownsRow base 41 2 v R.length (cellsC R)
/-- The raw chunks read as these wherever the blocks from lo to B, but x, are as they are here. -/
def Stays (w : World) (lo B : Nat) (x : Option Nat) (R : List RawC) (L : List Ck) : Prop :=
  ∀ w' : World, (∀ b, lo ≤ b → b < B → some b ≠ x → w'.heap[b]? = w.heap[b]?) → TellsC w' R L

section
variable {w w' : World} {A : Option Addr} {n c base : Nat} {v : Value} {R : List RawC} {L : List Ck}
theorem Rd.same {l : List Int} (h : Rd w A n c l) (hb : ∀ b o sp, A = some ⟨b, o, sp⟩ → l ≠ [] → w'.heap[b]? = w.heap[b]?) : Rd w' A n c l :=
  ⟨h.1, h.2.1, h.2.2.1, h.2.2.2.1, fun j z hz => by
    obtain ⟨b, o, hA, hc⟩ := h.2.2.2.2 j z hz
    exact ⟨b, o, hA, (World.cell?_of_block (hb b o none hA (by rintro rfl; simp at hz))).trans hc⟩⟩
theorem TellsC.below (h : TellsC w R L) (hb : Below w.heap.size w w') : TellsC w' R L :=
  ⟨h.1, fun j r e hr he => by
    obtain ⟨a, b⟩ := h.2 j r e hr he
    exact ⟨a.below hb, b⟩⟩
theorem TellsC.nil (w : World) : TellsC w [] [] := ⟨rfl, fun j r e h => by simp at h⟩
theorem TellsC.snoc {r : RawC} {e : Ck} (h : TellsC w R L) (hr : Rd w r.1 r.2.1 r.2.2.1 e.1) (hv : r.2.2.2 = e.2) : TellsC w (R ++ [r]) (L ++ [e]) := by
  refine ⟨by simp [h.1], fun j s f hs hf => ?_⟩
  rcases Nat.lt_or_ge j R.length with hj | hj
  · rw [List.getElem?_append_left hj] at hs
    rw [List.getElem?_append_left (by rw [← h.1]; exact hj)] at hf
    exact h.2 j s f hs hf
  · rw [List.getElem?_append_right hj] at hs
    rw [List.getElem?_append_right (by rw [← h.1]; exact hj)] at hf
    rw [← h.1] at hf
    generalize j - R.length = q at hs hf
    cases q with
    | zero =>
      simp at hs hf
      subst hs hf
      exact ⟨hr, hv⟩
    | succ q => simp at hs
theorem TellsC.app {S : List RawC} {M : List Ck} (h : TellsC w R L) (k : TellsC w S M) : TellsC w (R ++ S) (L ++ M) := by
  refine ⟨by simp [h.1, k.1], fun j s f hs hf => ?_⟩
  rcases Nat.lt_or_ge j R.length with hj | hj
  · rw [List.getElem?_append_left hj] at hs
    rw [List.getElem?_append_left (by rw [← h.1]; exact hj)] at hf
    exact h.2 j s f hs hf
  · rw [List.getElem?_append_right hj] at hs
    rw [List.getElem?_append_right (by rw [← h.1]; exact hj)] at hf
    rw [← h.1] at hf
    exact k.2 _ s f hs hf
theorem RawCt.below (h : RawCt w A n c R) (hb : Below w.heap.size w w') : RawCt w' A n c R :=
  ⟨h.1, h.2.1, h.2.2.1, fun j r hr => by
    obtain ⟨b, o, hA, c0, c1⟩ := h.2.2.2 j r hr
    have hk := fun (a : Addr) (v : Value) (hc : w.cell? a = some v) => (hb.cell (World.block_lt_of_cell? _ a hc)).trans hc
    exact ⟨b, o, hA, hk _ _ c0, hk _ _ c1⟩⟩
theorem RdC.below (h : RdC w A n c L) (hb : Below w.heap.size w w') : RdC w' A n c L := by
  obtain ⟨R, h1, h2⟩ := h
  exact ⟨R, h1.below hb, h2.below hb⟩
theorem RdC.len (h : RdC w A n c L) : L.length = n := by
  obtain ⟨R, h1, h2⟩ := h
  rw [← h2.1]; exact h1.1
theorem RdC.cap (h : RdC w A n c L) : n ≤ c := by obtain ⟨R, h1, _⟩ := h; exact h1.2.1
theorem RdC.max (h : RdC w A n c L) : c ≤ 9223372036854775807 := by obtain ⟨R, h1, _⟩ := h; exact h1.2.2.1
theorem RdC.at_ (h : RdC w A n c L) {k : Nat} (hk : k < n) :
    ∃ b o A' n' c' l v, A = some ⟨b, o, none⟩ ∧ L[k]? = some (l, v) ∧ b < w.heap.size ∧ w.cell? ⟨b, o + k * 2, none⟩ = some (.slice A' n' c') ∧ w.cell? ⟨b, o + k * 2 + 1, none⟩ = some (.int .i64 v) ∧ Rd w A' n' c' l := by
  have hln := h.len
  obtain ⟨R, h1, h2⟩ := h
  have hkR : k < R.length := by rw [h1.1]; exact hk
  have hkL : k < L.length := by rw [hln]; exact hk
  have hr : R[k]? = some R[k] := List.getElem?_eq_getElem hkR
  have he : L[k]? = some L[k] := List.getElem?_eq_getElem hkL
  obtain ⟨b, o, hA, c0, c1⟩ := h1.2.2.2 k _ hr
  obtain ⟨a1, a2⟩ := h2.2 k _ _ hr he
  exact ⟨b, o, _, _, _, L[k].1, L[k].2, hA, he, World.block_lt_of_cell? _ _ c0, c0, by rw [c1, a2], a1⟩
theorem RdC.nil (w : World) (A : Option Addr) : RdC w A 0 0 [] := ⟨[], ⟨rfl, Nat.le_refl _, by simp [maxLen], fun j r h => by simp at h⟩, TellsC.nil w⟩
theorem OwnC.nil (w : World) (base : Nat) : OwnC w base (.slice none 0 0) [] := World.ownsRow_nil w base _ 2
theorem OwnC.alloc (h : OwnC w base v R) (o : Obj) : OwnC (w.alloc o) base v R := World.ownsRow.alloc h o
theorem OwnC.lt (h : OwnC w base v R) : ∀ k, v.ownBlock = some k → base ≤ k ∧ k < w.heap.size := World.ownsRow.lt h
theorem OwnC.grown {row : Option Nat} (h : OwnC w base v R) (hg : w.grownBy w' row) (hr : v.ownBlock = none ∨ v.ownBlock ≠ row) : OwnC w' base v R := World.ownsRow.kept h (row := row) hg hr
theorem OwnC.below (h : OwnC w base v R) (hb : Below w.heap.size w w') : OwnC w' base v R :=
  World.ownsRow.kept h (row := none) ⟨hb.os, hb.tape, hb.output, hb.size, fun k hk _ => hb.block k hk⟩ (by cases h : v.ownBlock <;> simp)
/-- What is owned holds its raw chunks. -/
theorem OwnC.form (h : OwnC w base v R) (hn : R.length = n) : ∃ A c, v = .slice A n c ∧ RawCt w A n c R := by
  subst hn
  rcases h.2 with ⟨rfl, hn⟩ | ⟨g, cap, cur, rfl, hbg, hg, hnc, hcm, hcs, htake⟩
  · have hl : R = [] := List.eq_nil_of_length_eq_zero hn
    subst hl
    exact ⟨none, 0, rfl, rfl, Nat.le_refl _, by simp [maxLen], fun j r hr => by simp at hr⟩
  · refine ⟨_, cap, rfl, rfl, hnc, hcm, fun j r hr => ?_⟩
    obtain ⟨a, b⟩ := cellsC_at hr
    have hc := fun j u (hu : (cellsC R)[j]? = some u) => World.ownsRow.cells h (g := g) rfl j u hu
    refine ⟨g, 0, rfl, ?_, ?_⟩
    · have := hc _ _ a; rw [Addr.add_lit] at this; exact this
    · have := hc _ _ b; rw [Addr.add_lit] at this; rw [Nat.add_assoc]; exact this
theorem OwnC.len {A : Option Addr} (h : OwnC w base (.slice A n c) R) : R.length = n := by
  rcases h.2 with ⟨h, hn⟩ | ⟨g, cap, cur, h, _⟩
  · injection h with _ h2 _; omega
  · injection h with _ h2 _; omega
theorem OwnC.reads {A : Option Addr} (h : OwnC w base (.slice A n c) R) : RawCt w A n c R := by
  obtain ⟨A', c', e, hr⟩ := h.form h.len
  injection e with e1 e2 e3
  subst e1 e3
  exact hr
theorem OwnC.weaken {base' : Nat} (h : OwnC w base v R) (hb : base' ≤ base) : OwnC w base' v R := by
  refine ⟨h.1, ?_⟩
  rcases h.2 with h' | ⟨g, cap, cur, h1, h2, h3⟩
  · exact .inl h'
  · exact .inr ⟨g, cap, cur, h1, by omega, h3⟩
end

section
variable {w w' : World} {lo B B' : Nat} {x x' : Option Nat} {R S : List RawC} {L M : List Ck}
theorem Stays.tells (h : Stays w lo B x R L) : TellsC w R L := h w fun _ _ _ _ => rfl
theorem Stays.nil (w : World) (lo B : Nat) (x : Option Nat) : Stays w lo B x [] [] := fun w' _ => TellsC.nil w'
theorem Stays.move (h : Stays w lo B x R L) (hb : ∀ b, lo ≤ b → b < B → some b ≠ x → w'.heap[b]? = w.heap[b]?) : Stays w' lo B x R L :=
  fun w2 h2 => h w2 fun b h0 h1 h3 => (h2 b h0 h1 h3).trans (hb b h0 h1 h3)
theorem Stays.below (h : Stays w lo B x R L) (hb : Below B w w') : Stays w' lo B x R L := h.move fun b _ h1 _ => hb.block b h1
theorem Stays.grown {row : Option Nat} (h : Stays w lo B x R L) (hg : w.grownBy w' row) (hB : B ≤ w.heap.size) (hr : row = x ∨ ∀ k, row = some k → B ≤ k) : Stays w' lo B x R L :=
  h.move fun b _ h1 h2 => hg.block b (by omega) (by
    rcases hr with rfl | hr
    · exact h2
    · intro e; have := hr b e.symm; omega)
theorem Stays.wider (h : Stays w lo B x R L) (hB : B ≤ B') (hx : x' = x ∨ x' = none ∨ ∃ k, x' = some k ∧ B ≤ k) : Stays w lo B' x' R L :=
  fun w2 h2 => h w2 fun b h0 h1 h3 => h2 b h0 (by omega) (by
    rcases hx with rfl | rfl | ⟨k, rfl, hk⟩
    · exact h3
    · simp
    · intro e; injection e with e; omega)
theorem Stays.but (h : Stays w lo B none R L) (hx : ∀ k, x = some k → k < lo) : Stays w lo B x R L := fun w2 h2 => h w2 fun b h0 h1 _ => h2 b h0 h1 fun e => by have := hx b e.symm; omega
theorem Stays.lower {lo' : Nat} (h : Stays w lo B x R L) (hl : lo' ≤ lo) : Stays w lo' B x R L := fun w2 h2 => h w2 fun b h0 h1 h3 => h2 b (by omega) h1 h3
theorem Stays.snoc {A : Option Addr} {n c : Nat} {v : Int} {l : List Int} (h : Stays w lo B x R L) (hr : Rd w A n c l) (hb : ∀ b o sp, A = some ⟨b, o, sp⟩ → l ≠ [] → lo ≤ b ∧ b < B ∧ some b ≠ x) : Stays w lo B x (R ++ [(A, n, c, v)]) (L ++ [(l, v)]) :=
  fun w2 h2 => (h w2 h2).snoc (hr.same fun b o sp hA hl => by
    obtain ⟨h0, h1, h3⟩ := hb b o sp hA hl
    exact h2 b h0 h1 h3) rfl
theorem Stays.app (h : Stays w lo B x R L) (k : Stays w lo B x S M) : Stays w lo B x (R ++ S) (L ++ M) := fun w2 h2 => (h w2 h2).app (k w2 h2)
end

theorem info_chunk : (Try.prog.info? 41).map (fun i => (i.zero, i.size, i.bytes)) = some (some (.agg #[.slice none 0 0, .int .i64 0]), 2, 32) := by kernel_rfl
section
variable {w : World}
/-- append of chunks that are held onto an owned row: the run. -/
theorem run_appC (base : Nat) (ty : TypeId) (v : Value) (R : List RawC) (hown : OwnC w base v R) (A : Option Addr) (m c : Nat) (S : List RawC) (hr : RawCt w A m c S)
    (hbytes : R.length + m ≤ 1000000000) (hbase : base ≤ w.heap.size) :
    ∃ v' w', (Builtin.append_ #[30, 30] ty #[v, .slice A m c]).run Try.prog w = .ok v' w' ∧ OwnC w' base v' (R ++ S) ∧ w.grownBy w' v.ownBlock ∧ (v'.ownBlock = v.ownBlock ∨ v'.ownBlock = some w.heap.size) := by
  obtain ⟨i0, hi0, hz0, hz1, hz2⟩ := info_parts info_chunk
  have hlen := hr.1
  cases A with
  | none =>
    have hx : S = [] := by
      cases S with
      | nil => rfl
      | cons z q =>
        obtain ⟨b, o, h, _⟩ := hr.2.2.2 0 z (by simp)
        cases h
    subst hx
    simp at hlen
    subst hlen
    refine ⟨v, w, ?_, by simpa using hown, World.grownBy.refl _ _, .inl rfl⟩
    rcases hown.2 with ⟨rfl, _⟩ | ⟨g, cap, cur, rfl, _, _, hnc, _⟩
    · simp [Builtin.append_, run_underlying Try.underlying30, sizeOf, typeInfo, hi0, Builtin.lenOf, Builtin.firstCells]
    · simp [Builtin.append_, run_underlying Try.underlying30, sizeOf, typeInfo, hi0, Builtin.lenOf, Builtin.firstCells, hnc, storeCells]
  | some ad =>
    have hcells : ∀ j u, (cellsC S)[j]? = some u → w.cell? (ad.add j) = some u := by
      intro j u hu
      obtain ⟨i, r, hi, hh⟩ := cellsC_get hu
      obtain ⟨b, o, h, h0, h1⟩ := hr.2.2.2 i r hi
      obtain rfl := Option.some.inj h
      rw [Addr.add_lit]
      rcases hh with ⟨rfl, rfl⟩ | ⟨rfl, rfl⟩
      · exact h0
      · exact h1
    obtain ⟨v', w', hrun, h2, h3, _, h5⟩ := run_append_own_at (P := Try.prog) w base 30 ty 41 i0 _ 2 32 Try.underlying30 hi0 hz0 hz1 hz2 rfl (by omega) v _ _ hown ad m c (cellsC S)
      (by rw [cellsC_length, hlen]) hcells (fun u hu => cellsC_mem hu) (by simp only [maxLen]; omega) (by omega) hbase
    refine ⟨v', w', hrun, ?_, h3, h5⟩
    unfold OwnC
    rw [cellsC_append, List.length_append, hlen]
    exact h2
theorem wpList_appC {ops : Array Oper} {rest : List Oper} {o : Oper} {a : Act} {Q : Exit → Act → World → Prop} (hgd : o.guard = none) (s x : Operand)
    (ho : o.op = .call { callee := .builtin .append, args := #[s, x], argTypes := #[30, 30] })
    (base : Nat) (v : Value) (R : List RawC) (hs : a.eval s = v) (A : Option Addr) (m c : Nat) (S : List RawC) (hx : a.eval x = .slice A m c)
    (hown : OwnC w base v R) (hr : RawCt w A m c S) (hbytes : R.length + m ≤ 1000000000) (hbase : base ≤ w.heap.size)
    (h : ∀ v' w', OwnC w' base v' (R ++ S) → w.grownBy w' v.ownBlock → (v'.ownBlock = v.ownBlock ∨ v'.ownBlock = some w.heap.size) → wpList Try.prog ops Q rest (a.put o.dst v') w') :
    wpList Try.prog ops Q (o :: rest) a w :=
  wpList_plain hgd fun K hK => by
    obtain ⟨v', w', hr, h2, h3, h4⟩ := run_appC base o.type v R hown A m c S hr hbytes hbase
    unfold Oper.wp execOp
    simp only [ho, resolve, invoke, builtin, Sem.run_bind, Sem.run_pure, Result.andThen_ok, List.map_toArray, List.map_cons, List.map_nil, hs, hx, hr]
    exact hK _ _ (h v' w' h2 h3 h4)
/-- A literal slice of one chunk. -/
theorem RawCt.one' {h : Nat} (A : Option Addr) (n c : Nat) (v : Int) (e : h = w.heap.size) : RawCt (w.alloc (.cells #[.slice A n c, .int .i64 v] 41)) (some ⟨h, 0, none⟩) 1 1 [(A, n, c, v)] := by
  subst e
  refine ⟨rfl, Nat.le_refl _, by simp [maxLen], fun j s hs => ?_⟩
  cases j with
  | zero =>
    simp at hs; subst hs
    exact ⟨_, _, rfl, by rw [World.cell?_alloc_at _ _ _ _ rfl]; rfl, by rw [World.cell?_alloc_at _ _ _ _ rfl]; rfl⟩
  | succ j => simp at hs
end

/-! ### zeros -/
theorem zeros_list (m : Nat) : (Builtin.zeroCells (Value.int .u8 0).cells m).toList = (List.replicate m (0 : Int)).map (Value.int .u8) := by
  apply List.ext_getElem?
  intro i
  rcases Nat.lt_or_ge i m with hi | hi
  · have e1 : (Value.int .u8 0).cells = #[.int .u8 0] := rfl
    simp [Builtin.zeroCells, e1, hi, Nat.mod_one]
  · have e1 : (Value.int .u8 0).cells = #[.int .u8 0] := rfl
    simp [Builtin.zeroCells, e1, hi, Nat.not_lt.2 hi]
section
variable {w : World}
/-- append of a new row of zeros onto an owned row: the run. -/
theorem run_appZ (base : Nat) (ty : TypeId) (v : Value) (l : List Int) (hown : Own w base v l) (m : Nat)
    (hbytes : l.length + m ≤ 140737488355328) (hbase : base ≤ w.heap.size) :
    ∃ v' w', (Builtin.append_ #[25, 3] ty #[v, .int .i64 (m : Int)]).run Try.prog w = .ok v' w' ∧ Own w' base v' (l ++ List.replicate m 0) ∧ w.grownBy w' v.ownBlock ∧
      (v'.ownBlock = v.ownBlock ∨ v'.ownBlock = some w.heap.size) := by
  obtain ⟨i0, hi0, hz0, hz1, hz2⟩ := info_parts info_u8
  have htn : Try.prog.underlying 3 = some (.int .i64) := by kernel_rfl
  obtain ⟨hown, hlb⟩ := hown
  have hall : ∀ z ∈ l ++ List.replicate m 0, 0 ≤ z ∧ z ≤ 255 := fun z hz => by
    rcases List.mem_append.1 hz with h | h
    · exact hlb z h
    · have := (List.mem_replicate.1 h).2; omega
  have hw : IntKind.i64.wrap (m : Int) = m := by rw [IntKind.wrap_i64]; omega
  have hneg : ¬ ((m : Int) < 0) := by omega
  have h48i : ¬ (281474976710656 < (m : Int) * (i0.bytes : Int)) := by rw [hz2]; omega
  by_cases hm : m = 0
  · subst hm
    refine ⟨v, w, ?_, ⟨by simpa using hown, by simpa using hlb⟩, World.grownBy.refl _ _, .inl rfl⟩
    rcases hown.2 with ⟨rfl, _⟩ | ⟨g, cap, cur, rfl, _, _, hnc, _⟩
    · simp [Builtin.append_, run_underlying Try.underlying25, run_underlying htn, sizeOf, typeInfo, hi0, asInt, asIntOf, IntKind.wrap_i64]
    · simp [Builtin.append_, run_underlying Try.underlying25, run_underlying htn, sizeOf, typeInfo, hi0, asInt, asIntOf, hnc, storeCells, IntKind.wrap_i64]
  · have hm0 : 0 < m := by omega
    have hsm := by simpa using hown.1
    have hzl : (Builtin.zeroCells (Value.int .u8 0).cells m).toList.length = m := by rw [zeros_list]; simp
    have hnew : ∀ (old : Nat), old < l.length + m →
        (w.drew.alloc (.cells ((l.map (Value.int .u8)).toArray ++ Builtin.zeroCells (Value.int .u8 0).cells m ++ Builtin.zeroCells (Value.int .u8 0).cells (grownCap w (l.length + m) old 5 - (l.length + m))) 5)).ownsRow base 5 1
          (.slice (some ⟨w.heap.size, 0, none⟩) (l.length + m) (grownCap w (l.length + m) old 5)) (l ++ List.replicate m 0).length ((l ++ List.replicate m 0).map (Value.int .u8)) := by
      intro old ho
      have hge := grownCap_ge w (l.length + m) old 5
      have hcm : grownCap w (l.length + m) old 5 ≤ maxLen := grownCap_le_maxLen w (l.length + m) old 5 (by simp only [maxLen]; omega)
      have hln : (l ++ List.replicate m 0).length = l.length + m := by simp
      rw [hln]
      refine ⟨by simp, .inr ⟨w.heap.size, _, _, rfl, hbase, heap_alloc_new w.drew _, hge, hcm, ?_, ?_⟩⟩
      · have h1 : (Builtin.zeroCells (Value.int .u8 0).cells m).size = m := by rw [size_zeroCells]; simp [Value.cells]
        have h2 : (Builtin.zeroCells (Value.int .u8 0).cells (grownCap w (l.length + m) old 5 - (l.length + m))).size = grownCap w (l.length + m) old 5 - (l.length + m) := by rw [size_zeroCells]; simp [Value.cells]
        simp only [Array.size_append, h1, h2, List.size_toArray, List.length_map]
        omega
      · simp only [Array.toList_append]
        rw [zeros_list, List.map_append]
        have : ((l.map (Value.int .u8)).toArray.toList ++ List.map (Value.int .u8) (List.replicate m 0)).length = (l.length + m) * 1 := by simp
        rw [← this]
        exact List.take_left
    rcases hown.2 with ⟨rfl, hn⟩ | ⟨g, cap, cur, rfl, hbg, hg, hnc, hcm, hcs, htake⟩
    · have hl : l = [] := List.eq_nil_of_length_eq_zero hn
      subst hl
      have hr := Lib.run_append_nil_zeros (P := Try.prog) w 25 3 ty 5 i0 _ .i64 .i64 Try.underlying25 htn hi0 hz0 m hm0 (by omega) (by omega) (by rw [hz2]; omega)
      have hgr := hnew 0 (by simp; omega)
      simp only [List.length_nil, Nat.zero_add, List.map_nil, Array.empty_append, List.nil_append] at hgr ⊢
      exact ⟨_, _, hr, ⟨hgr, hall⟩, ⟨rfl, rfl, rfl, by simp, fun k hk _ => Below.heap_alloc w.drew _ k hk⟩, .inr rfl⟩
    · by_cases hroom : l.length + m ≤ cap
      · have hfit : l.length + m ≤ cur.size := by rw [hcs]; omega
        have hst := run_storeCells_at Try.prog g l.length 5 ((List.replicate m (0 : Int)).map (Value.int .u8)) 0 cur w hg (by simpa using hfit) (by intro u hu; obtain ⟨z, _, rfl⟩ := List.mem_map.1 hu; rfl)
        simp only [Nat.add_zero] at hst
        have hrun : (Builtin.append_ #[25, 3] ty #[.slice (some ⟨g, 0, none⟩) l.length cap, .int .i64 (m : Int)]).run Try.prog w = .ok (.slice (some ⟨g, 0, none⟩) (l.length + m) cap) (w.setRow g (List.take l.length cur.toList ++ List.map (Value.int .u8) (List.replicate m (0 : Int)) ++ List.drop (l.length + (List.map (Value.int .u8) (List.replicate m (0 : Int))).length) cur.toList).toArray) := by
          simp [Builtin.append_, run_underlying Try.underlying25, run_underlying htn, sizeOf, typeInfo, zeroValue, hi0, hz0, hz1, asInt, asIntOf, hw, hneg, h48i, hm, hroom, Addr.add_lit]
          rw [zeros_list, hst]
          simp
        have hln : (l ++ List.replicate m (0 : Int)).length = l.length + m := by simp
        refine ⟨_, _, hrun, ⟨?_, hall⟩, ⟨rfl, rfl, rfl, by simp, fun k _ hk => setRow_other w g k _ (fun e => hk (by simp [Value.ownBlock, e]))⟩, .inl rfl⟩
        rw [hln]
        refine ⟨by simp, .inr ⟨g, cap, _, rfl, hbg, setRow_heap w g cur _ 5 _ hg, hroom, hcm, ?_, ?_⟩⟩
        · simp only [List.size_toArray, List.length_append, List.length_take, List.length_drop, Array.length_toList, List.length_map, List.length_replicate]
          omega
        · have e1 : List.take l.length cur.toList = l.map (Value.int .u8) := by simpa using htake
          rw [e1, List.map_append]
          have : (List.map (Value.int .u8) l ++ List.map (Value.int .u8) (List.replicate m (0 : Int))).length = (l.length + m) * 1 := by simp
          rw [← this]
          exact List.take_left
      · have holds : ∀ j u, (l.map (Value.int .u8))[j]? = some u → w.cell? ((⟨g, 0, none⟩ : Addr).add j) = some u := World.ownsRow.cells hown (g := g) rfl
        have hfo := run_firstCells_some (P := Try.prog) w.drew 1 l.length ⟨g, 0, none⟩ l.length cap (l.map (Value.int .u8)) (by simp) (by simpa using holds)
        have hr := Lib.run_append_grow_zeros (P := Try.prog) w 25 3 ty 5 i0 _ .i64 .i64 Try.underlying25 htn hi0 hz0 (some ⟨g, 0, none⟩) l.length cap (l.map (Value.int .u8)) (by rw [hz1]; exact hfo) m hm0 (by omega) (by omega) (by omega) (by rw [hz2]; omega) (growslice_fits (by omega) (by rw [hz2]; omega))
        exact ⟨_, _, hr, ⟨hnew cap (by omega), hall⟩, ⟨rfl, rfl, rfl, by simp, fun k hk _ => Below.heap_alloc w.drew _ k hk⟩, .inr rfl⟩
theorem wpList_appZ {ops : Array Oper} {rest : List Oper} {o : Oper} {a : Act} {Q : Exit → Act → World → Prop} (hgd : o.guard = none) (s x : Operand)
    (ho : o.op = .call { callee := .builtin .append, args := #[s, x], argTypes := #[25, 3] })
    (base : Nat) (v : Value) (l : List Int) (hs : a.eval s = v) (m : Nat) (hx : a.eval x = .int .i64 (m : Int))
    (hown : Own w base v l) (hbytes : l.length + m ≤ 140737488355328) (hbase : base ≤ w.heap.size)
    (h : ∀ v' w', Own w' base v' (l ++ List.replicate m 0) → w.grownBy w' v.ownBlock → (v'.ownBlock = v.ownBlock ∨ v'.ownBlock = some w.heap.size) → wpList Try.prog ops Q rest (a.put o.dst v') w') :
    wpList Try.prog ops Q (o :: rest) a w :=
  wpList_plain hgd fun K hK => by
    obtain ⟨v', w', hr, h2, h3, h4⟩ := run_appZ base o.type v l hown m hbytes hbase
    unfold Oper.wp execOp
    simp only [ho, resolve, invoke, builtin, Sem.run_bind, Sem.run_pure, Result.andThen_ok, List.map_toArray, List.map_cons, List.map_nil, hs, hx, hr]
    exact hK _ _ (h v' w' h2 h3 h4)
end

/-! ### boxes -/
/-- The box of a stream in block g. -/
def SBox (w : World) (g : Nat) (A : Option Addr) (n c : Nat) (k : Int) (br : Bool) : Prop := w.heap[g]? = some (.cells #[.slice A n c, .int .u64 k, .bool br] 29 (0, 0))
/-- The box of a chunk in block g. -/
def CBox (w : World) (g : Nat) (A : Option Addr) (n c : Nat) (v : Int) : Prop := w.heap[g]? = some (.cells #[.slice A n c, .int .i64 v] 41 (0, 0))
section
variable {w w' : World} {g : Nat} {A : Option Addr} {n c : Nat} {k v : Int} {br : Bool}
theorem SBox.new (w : World) (A : Option Addr) (n c : Nat) (k : Int) (br : Bool) : SBox (w.alloc (.cells #[.slice A n c, .int .u64 k, .bool br] 29)) w.heap.size A n c k br := heap_alloc_new w _
theorem SBox.c0 (h : SBox w g A n c k br) : w.cell? ⟨g, 0, none⟩ = some (.slice A n c) := by rw [Lib.cell_of_heap h]; rfl
theorem SBox.c1 (h : SBox w g A n c k br) : w.cell? ⟨g, 1, none⟩ = some (.int .u64 k) := by rw [Lib.cell_of_heap h]; rfl
theorem SBox.c2 (h : SBox w g A n c k br) : w.cell? ⟨g, 2, none⟩ = some (.bool br) := by rw [Lib.cell_of_heap h]; rfl
theorem SBox.lt (h : SBox w g A n c k br) : g < w.heap.size := World.block_lt_of_cell? _ ⟨g, 0, none⟩ h.c0
theorem SBox.far (h : SBox w g A n c k br) (hb : w'.heap[g]? = w.heap[g]?) : SBox w' g A n c k br := hb.trans h
theorem SBox.below (h : SBox w g A n c k br) (hb : Below w.heap.size w w') : SBox w' g A n c k br := h.far (hb.block g h.lt)
theorem SBox.grown {row : Option Nat} (h : SBox w g A n c k br) (hg : w.grownBy w' row) (hr : some g ≠ row) : SBox w' g A n c k br := h.far (hg.block g h.lt hr)
theorem SBox.frozen (h : SBox w g A n c k br) (i : Nat) : w.frozen? ⟨g, i, none⟩ = false := by
  have : w.heap[g]? = _ := h
  simp [World.frozen?, this]
theorem SBox.put0 (h : SBox w g A n c k br) (A' : Option Addr) (n' c' : Nat) : SBox (w.setCell ⟨g, 0, none⟩ (.slice A' n' c')) g A' n' c' k br := by
  have h' : w.heap[g]? = _ := h
  unfold SBox
  simp [World.setCell, Array.getElem?_modify, h']
theorem SBox.put1 (h : SBox w g A n c k br) (k' : Int) : SBox (w.setCell ⟨g, 1, none⟩ (.int .u64 k')) g A n c k' br := by
  have h' : w.heap[g]? = _ := h
  unfold SBox
  simp [World.setCell, Array.getElem?_modify, h']
theorem SBox.put3 (h : SBox w g A n c k br) (A' : Option Addr) (n' c' : Nat) (k' : Int) (br' : Bool) :
    SBox (((w.setCell ⟨g, 0, none⟩ (.slice A' n' c')).setCell ⟨g, 1, none⟩ (.int .u64 k')).setCell ⟨g, 2, none⟩ (.bool br')) g A' n' c' k' br' := by
  have h' : w.heap[g]? = _ := h
  unfold SBox
  simp [World.setCell, Array.getElem?_modify, h']
theorem CBox.new (w : World) (A : Option Addr) (n c : Nat) (v : Int) : CBox (w.alloc (.cells #[.slice A n c, .int .i64 v] 41)) w.heap.size A n c v := heap_alloc_new w _
theorem CBox.c0 (h : CBox w g A n c v) : w.cell? ⟨g, 0, none⟩ = some (.slice A n c) := by rw [Lib.cell_of_heap h]; rfl
theorem CBox.c1 (h : CBox w g A n c v) : w.cell? ⟨g, 1, none⟩ = some (.int .i64 v) := by rw [Lib.cell_of_heap h]; rfl
theorem CBox.lt (h : CBox w g A n c v) : g < w.heap.size := World.block_lt_of_cell? _ ⟨g, 0, none⟩ h.c0
theorem CBox.far (h : CBox w g A n c v) (hb : w'.heap[g]? = w.heap[g]?) : CBox w' g A n c v := hb.trans h
theorem CBox.below (h : CBox w g A n c v) (hb : Below w.heap.size w w') : CBox w' g A n c v := h.far (hb.block g h.lt)
theorem CBox.frozen (h : CBox w g A n c v) (i : Nat) : w.frozen? ⟨g, i, none⟩ = false := by
  have : w.heap[g]? = _ := h
  simp [World.frozen?, this]
theorem CBox.put2 (h : CBox w g A n c v) (A' : Option Addr) (n' c' : Nat) (v' : Int) : CBox ((w.setCell ⟨g, 0, none⟩ (.slice A' n' c')).setCell ⟨g, 1, none⟩ (.int .i64 v')) g A' n' c' v' := by
  have h' : w.heap[g]? = _ := h
  unfold CBox
  simp [World.setCell, Array.getElem?_modify, h']
end
theorem results_cells_row3 {P : Program} {fn : Func} {p q u : Tmp} {ty tz : TypeId} (h : fn.results = #[.cell p ty, .cell q tz, .tmp u]) (tmps : Array Value) (w : World) (g g' : Nat) (t t' : TypeId) (cs cs' : Array Value) (fr fr' : Nat × Nat) (d d' : TypeDesc)
    (hp : tmps.getD p undef = .pointer (some ⟨g, 0, none⟩)) (hg : w.heap[g]? = some (.cells cs t fr))
    (hu : P.underlying ty = some d) (hd : (match d with | .struct _ | .array _ _ => true | _ => false) = true) (hi : (P.info? ty).map (·.size) = some cs.size)
    (hp2 : tmps.getD q undef = .pointer (some ⟨g', 0, none⟩)) (hg2 : w.heap[g']? = some (.cells cs' t' fr'))
    (hu2 : P.underlying tz = some d') (hd2 : (match d' with | .struct _ | .array _ _ => true | _ => false) = true) (hi2 : (P.info? tz).map (·.size) = some cs'.size) :
    (results fn tmps).run P w = .ok (.tuple #[.agg cs, .agg cs', tmps.getD u undef]) w := by
  have hp' : tmps[p]?.getD undef = .pointer (some ⟨g, 0, none⟩) := by simpa using hp
  have hp2' : tmps[q]?.getD undef = .pointer (some ⟨g', 0, none⟩) := by simpa using hp2
  simp [results, h, hp', hp2', asAddr, run_loadVar_row w g t ty cs fr d hg hu hd hi, run_loadVar_row w g' t' tz cs' fr' d' hg2 hu2 hd2 hi2, Result.andThen, Sem.run_bind]
theorem below_put2 {B : Nat} {w0 w : World} {g : Nat} (h : Below B w0 w) (hg : B ≤ g) (v0 v1 : Value) : Below B w0 ((w.setCell ⟨g, 0, none⟩ v0).setCell ⟨g, 1, none⟩ v1) :=
  (h.setCell (p := ⟨g, 0, none⟩) hg _).setCell (p := ⟨g, 1, none⟩) hg _
end Go.Proofs.Ytfihaonpifoekaa
