/- Rows of tags that a call owns: append onto them, slices.Clone, and tags.Sort. Conditions: none beyond those typed. -/
import Derived.Test.YtfihaonpifoekaaTsort
import Derived.Lib.BufferMore
namespace Go.Proofs.Ytfihaonpifoekaa
open Go.ChangeShapes Go.WideShapes Go.ChangeAt Go.RowKit
set_option linter.unusedVariables false
set_option maxRecDepth 100000
set_option linter.unusedSimpArgs false

/-- v is a row of tags of the call's own (blocks from base on), which holds l. -/
def OwnT (w : World) (base : Nat) (v : Value) (l : List Tg) : Prop :=
  w.ownsRow base 73 2 v l.length (cellsT l) ∧ ∀ t ∈ l, t.1.size ≤ 140737488355328 ∧ t.2.size ≤ 140737488355328

theorem cellsT_append (l m : List Tg) : cellsT (l ++ m) = cellsT l ++ cellsT m := by simp [cellsT]
theorem cellsT_mem : ∀ {l : List Tg} {u : Value}, u ∈ cellsT l → u.oneCell' = true
  | [], u, h => by simp [cellsT] at h
  | t :: r, u, h => by
    have e : cellsT (t :: r) = .string t.1 :: .string t.2 :: cellsT r := rfl
    rw [e] at h
    rcases List.mem_cons.1 h with rfl | h
    · rfl
    · rcases List.mem_cons.1 h with rfl | h
      · rfl
      · exact cellsT_mem h
theorem cellsT_get : ∀ {l : List Tg} {j : Nat} {u : Value}, (cellsT l)[j]? = some u → ∃ i t, l[i]? = some t ∧ ((j = i * 2 ∧ u = .string t.1) ∨ (j = i * 2 + 1 ∧ u = .string t.2))
  | [], j, u, h => by simp [cellsT] at h
  | t :: r, 0, u, h => ⟨0, t, rfl, .inl ⟨rfl, (Option.some.inj h).symm⟩⟩
  | t :: r, 1, u, h => ⟨0, t, rfl, .inr ⟨rfl, (Option.some.inj h).symm⟩⟩
  | t :: r, j + 2, u, h => by
    have e : cellsT (t :: r) = .string t.1 :: .string t.2 :: cellsT r := rfl
    rw [e] at h
    obtain ⟨i, x, hx, hh⟩ := cellsT_get (l := r) (j := j) (u := u) (by simpa using h)
    refine ⟨i + 1, x, by simpa using hx, ?_⟩
    rcases hh with ⟨h1, h2⟩ | ⟨h1, h2⟩
    · exact .inl ⟨by omega, h2⟩
    · exact .inr ⟨by omega, h2⟩

section
variable {w w' : World} {base : Nat} {v : Value} {l : List Tg}
theorem OwnT.none_ (w : World) (base : Nat) : OwnT w base (.slice none 0 0) [] := ⟨World.ownsRow_nil w base _ 2, fun z hz => absurd hz (by simp)⟩
theorem OwnT.empty (w : World) : OwnT (w.alloc (.cells #[] 73)) w.heap.size (.slice (some ⟨w.heap.size, 0, none⟩) 0 0) [] :=
  ⟨World.ownsRow_made w #[] 0 (Nat.le_refl _) (by simp [maxLen]) rfl, fun z hz => absurd hz (by simp)⟩
theorem OwnT.alloc (h : OwnT w base v l) (o : Obj) : OwnT (w.alloc o) base v l := ⟨h.1.alloc o, h.2⟩
theorem OwnT.drewN (h : OwnT w base v l) (k : Nat) : OwnT (w.drewN k) base v l := h
theorem OwnT.lt (h : OwnT w base v l) : ∀ k, v.ownBlock = some k → base ≤ k ∧ k < w.heap.size := h.1.lt
theorem OwnT.kept (h : OwnT w base v l) (hb : Below w.heap.size w w') : OwnT w' base v l :=
  ⟨h.1.kept (row := none) ⟨hb.os, hb.tape, hb.output, hb.size, fun k hk _ => hb.block k hk⟩ (by cases h : v.ownBlock <;> simp), h.2⟩
theorem OwnT.weaken {base' : Nat} (h : OwnT w base v l) (hb : base' ≤ base) : OwnT w base' v l := by
  refine ⟨⟨h.1.1, ?_⟩, h.2⟩
  rcases h.1.2 with h0 | ⟨g, cap, cur, h1, h2, h3⟩
  · exact .inl h0
  · exact .inr ⟨g, cap, cur, h1, by omega, h3⟩
/-- What is owned reads; its block, if it has one. -/
theorem OwnT.form (h : OwnT w base v l) : ∃ A c, v = .slice A l.length c ∧ RdT w A l.length c l ∧ (A = none ∧ l = [] ∨ ∃ g, A = some ⟨g, 0, none⟩ ∧ base ≤ g ∧ Row w g c l) := by
  obtain ⟨hown, hb⟩ := h
  rcases hown.2 with ⟨rfl, hn⟩ | ⟨g, cap, cur, rfl, hbg, hg, hnc, hcm, hcs, htake⟩
  · have hl : l = [] := List.eq_nil_of_length_eq_zero hn
    subst hl
    exact ⟨_, _, rfl, RdT.none_ w, .inl ⟨rfl, rfl⟩⟩
  · have hr : Row w g cap l := ⟨⟨cur, hg, hcs, htake⟩, hnc, hcm, hb⟩
    exact ⟨_, _, rfl, hr.rd, .inr ⟨g, rfl, hbg, hr⟩⟩
theorem Row.own {g c : Nat} (h : Row w g c l) (hb : base ≤ g) : OwnT w base (.slice (some ⟨g, 0, none⟩) l.length c) l := by
  obtain ⟨⟨cs, hh, hs, ht⟩, hl, hm, hz⟩ := h
  exact ⟨⟨cellsT_length l, .inr ⟨g, c, cs, rfl, hb, hh, hl, hm, hs, ht⟩⟩, hz⟩
theorem Below.appT {B : Nat} {w0 : World} (h : Below B w0 w) (hown : OwnT w base v l) (hg : w.grownBy w' v.ownBlock) (hB : B ≤ w.heap.size) (hbase : B ≤ base) : Below B w0 w' :=
  h.grown hg hB fun k hk => by have := hown.lt k hk; omega
end

theorem info_tag : (Try.prog.info? 73).map (fun i => (i.zero, i.size, i.bytes)) = some (some (.agg #[.string ⟨#[]⟩, .string ⟨#[]⟩]), 2, 32) := by kernel_rfl

section
variable {w : World}
theorem run_appT (base : Nat) (ty : TypeId) (v : Value) (l : List Tg) (hown : OwnT w base v l) (A : Option Addr) (m c : Nat) (xs : List Tg) (hr : RdT w A m c xs)
    (hbytes : l.length + m ≤ 1000000) (hbase : base ≤ w.heap.size) :
    ∃ v' w', (Builtin.append_ #[64, 64] ty #[v, .slice A m c]).run Try.prog w = .ok v' w' ∧ OwnT w' base v' (l ++ xs) ∧ w.grownBy w' v.ownBlock ∧
      (v'.ownBlock = v.ownBlock ∨ v'.ownBlock = some w.heap.size) := by
  obtain ⟨i0, hi0, hz0, hz1, hz2⟩ := info_parts info_tag
  obtain ⟨hown, hlb⟩ := hown
  have hxb := hr.sizes
  have hlen := hr.len
  have hall : ∀ t ∈ l ++ xs, t.1.size ≤ 140737488355328 ∧ t.2.size ≤ 140737488355328 := fun z hz => by
    rcases List.mem_append.1 hz with h | h
    · exact hlb z h
    · exact hxb z h
  cases A with
  | none =>
    have hx : xs = [] := by
      cases xs with
      | nil => rfl
      | cons z r =>
        obtain ⟨b, o, h, _⟩ := hr.2.2.2.2 0 z (by simp)
        cases h
    subst hx
    simp at hlen
    subst hlen
    refine ⟨v, w, ?_, by simpa using ⟨hown, hlb⟩, World.grownBy.refl _ _, .inl rfl⟩
    rcases hown.2 with ⟨rfl, _⟩ | ⟨g, cap, cur, rfl, _, _, hnc, _⟩
    · simp [Builtin.append_, run_underlying Try.underlying64, sizeOf, typeInfo, hi0, Builtin.lenOf, Builtin.firstCells]
    · simp [Builtin.append_, run_underlying Try.underlying64, sizeOf, typeInfo, hi0, Builtin.lenOf, Builtin.firstCells, hnc, storeCells]
  | some ad =>
    have hcells : ∀ j u, (cellsT xs)[j]? = some u → w.cell? (ad.add j) = some u := by
      intro j u hu
      obtain ⟨i, t, hi, hh⟩ := cellsT_get hu
      obtain ⟨b, o, h, h1, h2⟩ := hr.2.2.2.2 i t hi
      injection h with h
      subst h
      rw [Addr.add_lit]
      rcases hh with ⟨rfl, rfl⟩ | ⟨rfl, rfl⟩
      · exact h1
      · exact h2
    obtain ⟨v', w', hrun, h2, h3, _, h5⟩ := run_append_own_at (P := Try.prog) w base 64 ty 73 i0 _ 2 32 Try.underlying64 hi0 hz0 hz1 hz2 rfl (by omega) v _ _ hown ad m c (cellsT xs)
      (by rw [cellsT_length, hlen]) hcells (fun u hu => cellsT_mem hu) (by simp only [maxLen]; omega) (by omega) hbase
    refine ⟨v', w', hrun, ⟨?_, hall⟩, h3, h5⟩
    rw [cellsT_append, List.length_append, hlen]
    exact h2

theorem wpList_appT {ops : Array Oper} {rest : List Oper} {o : Oper} {a : Act} {Q : Exit → Act → World → Prop} (hgd : o.guard = none) (s x : Operand)
    (ho : o.op = .call { callee := .builtin .append, args := #[s, x], argTypes := #[64, 64] })
    (base : Nat) (v : Value) (l : List Tg) (hs : a.eval s = v) (A : Option Addr) (m c : Nat) (xs : List Tg) (hx : a.eval x = .slice A m c)
    (hown : OwnT w base v l) (hr : RdT w A m c xs)
    (hbytes : l.length + m ≤ 1000000) (hbase : base ≤ w.heap.size)
    (h : ∀ v' w', OwnT w' base v' (l ++ xs) → w.grownBy w' v.ownBlock → (v'.ownBlock = v.ownBlock ∨ v'.ownBlock = some w.heap.size) → wpList Try.prog ops Q rest (a.put o.dst v') w') :
    wpList Try.prog ops Q (o :: rest) a w :=
  wpList_plain hgd fun K hK => by
    obtain ⟨v', w', hr, h2, h3, h4⟩ := run_appT base o.type v l hown A m c xs hr hbytes hbase
    unfold Oper.wp execOp
    simp only [ho, resolve, invoke, builtin, Sem.run_bind, Sem.run_pure, Result.andThen_ok, List.map_toArray, List.map_cons, List.map_nil, hs, hx, hr]
    exact hK _ _ (h v' w' h2 h3 h4)
end

/-- A row of the call's own comes back. -/
def OutRow (w : World) (n : Nat) (l : List Tg) (e : Ending) (w' : World) : Prop :=
  ∃ g c, e = .returned (.slice (some ⟨g, 0, none⟩) n c) ∧ w.heap.size ≤ g ∧ Row w' g c l ∧ Below w.heap.size w w'

end Go.Proofs.Ytfihaonpifoekaa
