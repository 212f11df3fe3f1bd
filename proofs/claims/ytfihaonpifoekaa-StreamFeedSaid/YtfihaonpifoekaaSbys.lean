/- Words for rows of slices of bytes of the call's own, and append onto one. Conditions: none beyond those typed. -/
import Derived.Test.YtfihaonpifoekaaBytes
import Derived.Test.YtfihaonpifoekaaBase
import Derived.Test.YtfihaonpifoekaaBmem
namespace Go.Proofs.Ytfihaonpifoekaa
open Go.ChangeShapes Go.WideShapes Go.ChangeAt Go.RowKit
set_option linter.unusedVariables false
set_option linter.unusedSimpArgs false
set_option maxRecDepth 100000

/-- A slice's cell: address, length, capacity. -/
abbrev RawS := Option Addr × Nat × Nat
def cellsS (R : List RawS) : List Value := R.map fun r => .slice r.1 r.2.1 r.2.2
theorem cellsS_get {R : List RawS} {j : Nat} {u : Value} (h : (cellsS R)[j]? = some u) : ∃ r, R[j]? = some r ∧ u = .slice r.1 r.2.1 r.2.2 := by
  unfold cellsS at h
  rw [List.getElem?_map] at h
  cases hj : R[j]? with
  | none => rw [hj] at h; cases h
  | some r => rw [hj] at h; exact ⟨r, rfl, (Option.some.inj h).symm⟩
/-- The slice value '.slice A n c' holds these slices. -/
def RawSt (w : World) (A : Option Addr) (n c : Nat) (R : List RawS) : Prop :=
  R.length = n ∧ n ≤ c ∧ c ≤ maxLen ∧ ∀ (j : Nat) (r : RawS), R[j]? = some r → ∃ b o, A = some ⟨b, o, none⟩ ∧ w.cell? ⟨b, o + j, none⟩ = some (.slice r.1 r.2.1 r.2.2)
/-- v is a row of slices of the call's own (blocks from base on), which holds R. -/
def OwnS (w : World) (base : Nat) (v : Value) (R : List RawS) : Prop := w.ownsRow base 25 1 v R.length (cellsS R)
section
variable {w w' : World} {A : Option Addr} {n c base : Nat} {v : Value} {R : List RawS}
theorem OwnS.lt (h : OwnS w base v R) : ∀ k, v.ownBlock = some k → base ≤ k ∧ k < w.heap.size := World.ownsRow.lt h
theorem OwnS.alloc (h : OwnS w base v R) (o : Obj) : OwnS (w.alloc o) base v R := World.ownsRow.alloc h o
theorem OwnS.grown {row : Option Nat} (h : OwnS w base v R) (hg : w.grownBy w' row) (hr : v.ownBlock = none ∨ v.ownBlock ≠ row) : OwnS w' base v R := World.ownsRow.kept h (row := row) hg hr
theorem OwnS.form (h : OwnS w base v R) (hn : R.length = n) : ∃ A c, v = .slice A n c ∧ RawSt w A n c R := by
  subst hn
  rcases h.2 with ⟨rfl, hn⟩ | ⟨g, cap, cur, rfl, hbg, hg, hnc, hcm, hcs, htake⟩
  · have hl : R = [] := List.eq_nil_of_length_eq_zero hn
    subst hl
    exact ⟨none, 0, rfl, rfl, Nat.le_refl _, by simp [maxLen], fun j r hr => by simp at hr⟩
  · refine ⟨_, cap, rfl, rfl, hnc, hcm, fun j r hr => ⟨g, 0, rfl, ?_⟩⟩
    have := World.ownsRow.cells h (g := g) rfl j (.slice r.1 r.2.1 r.2.2) (by unfold cellsS; rw [List.getElem?_map, hr]; rfl)
    rw [Addr.add_lit] at this; exact this
theorem OwnS.two {w : World} {h : Nat} (r s : RawS) (e : h = w.heap.size) : OwnS (w.alloc (.cells #[.slice r.1 r.2.1 r.2.2, .slice s.1 s.2.1 s.2.2] 25)) w.heap.size (.slice (some ⟨h, 0, none⟩) 2 2) [r, s] := by
  subst e
  exact ⟨rfl, .inr ⟨w.heap.size, 2, #[.slice r.1 r.2.1 r.2.2, .slice s.1 s.2.1 s.2.2], rfl, Nat.le_refl _, heap_alloc_new w _, Nat.le_refl _, by simp [maxLen], rfl, rfl⟩⟩
theorem RawSt.one' {h : Nat} {r : RawS} (e : h = w.heap.size) : RawSt (w.alloc (.cells #[.slice r.1 r.2.1 r.2.2] 25)) (some ⟨h, 0, none⟩) 1 1 [r] := by
  subst e
  refine ⟨rfl, Nat.le_refl _, by simp [maxLen], fun j s hs => ?_⟩
  cases j with
  | zero => simp at hs; subst hs; exact ⟨_, _, rfl, by rw [World.cell?_alloc_at _ _ _ _ rfl]; rfl⟩
  | succ j => simp at hs
end
theorem info_bs : (Try.prog.info? 25).map (fun i => (i.zero, i.size, i.bytes)) = some (some (.slice none 0 0), 1, 24) := by kernel_rfl
section
variable {w : World}
theorem run_appSl (base : Nat) (ty : TypeId) (v : Value) (R : List RawS) (hown : OwnS w base v R) (ad : Addr) (m c : Nat) (S : List RawS) (hr : RawSt w (some ad) m c S)
    (hbytes : R.length + m ≤ 1000000) (hbase : base ≤ w.heap.size) :
    ∃ v' w', (Builtin.append_ #[22, 22] ty #[v, .slice (some ad) m c]).run Try.prog w = .ok v' w' ∧ OwnS w' base v' (R ++ S) ∧ w.grownBy w' v.ownBlock := by
  obtain ⟨i0, hi0, hz0, hz1, hz2⟩ := info_parts info_bs
  have hlen := hr.1
  have hcells : ∀ j u, (cellsS S)[j]? = some u → w.cell? (ad.add j) = some u := by
    intro j u hu
    obtain ⟨r, hi, rfl⟩ := cellsS_get hu
    obtain ⟨b, o, h, h0⟩ := hr.2.2.2 j r hi
    obtain rfl := Option.some.inj h
    rw [Addr.add_lit]
    exact h0
  obtain ⟨v', w', hrun, h2, h3, _, _⟩ := run_append_own_at (P := Try.prog) w base 22 ty 25 i0 _ 1 24 Try.underlying22 hi0 hz0 hz1 hz2 rfl (by omega) v _ _ hown ad m c (cellsS S)
    (by simp [cellsS, hlen]) hcells (fun u hu => by obtain ⟨r, _, rfl⟩ := List.mem_map.1 hu; rfl) (by simp only [maxLen]; omega) (by omega) hbase
  refine ⟨v', w', hrun, ?_, h3⟩
  unfold OwnS
  rw [show cellsS (R ++ S) = cellsS R ++ cellsS S by simp [cellsS], List.length_append, hlen]
  exact h2
theorem step_appSl {ops : Array Oper} {o : Oper} {a : Act} {K : Act → World → Prop} {Q : Exit → Act → World → Prop} {E : Prop} (hgd : o.guard = none) (s x : Operand)
    (ho : o.op = .call { callee := .builtin .append, args := #[s, x], argTypes := #[22, 22] })
    (base : Nat) (v : Value) (R : List RawS) (hs : a.eval s = v) (ad : Addr) (m c : Nat) (S : List RawS) (hx : a.eval x = .slice (some ad) m c)
    (hown : OwnS w base v R) (hr : RawSt w (some ad) m c S) (hbytes : R.length + m ≤ 1000000) (hbase : base ≤ w.heap.size)
    (h : ∀ v' w', OwnS w' base v' (R ++ S) → w.grownBy w' v.ownBlock → K (a.put o.dst v') w') :
    if Region.wanted o (yielded ops a.tmps) = true then Oper.wp Try.prog o a w K Q else E := by
  have hw : Region.wanted o (yielded ops a.tmps) = true := by simp [Region.wanted, hgd]
  rw [if_pos hw]
  obtain ⟨v', w', hr, h2, h3⟩ := run_appSl base o.type v R hown ad m c S hr hbytes hbase
  unfold Oper.wp execOp
  simp only [ho, resolve, invoke, builtin, Sem.run_bind, Sem.run_pure, Result.andThen_ok, List.map_toArray, List.map_cons, List.map_nil, hs, hx, hr]
  exact h v' w' h2 h3
end
end Go.Proofs.Ytfihaonpifoekaa
