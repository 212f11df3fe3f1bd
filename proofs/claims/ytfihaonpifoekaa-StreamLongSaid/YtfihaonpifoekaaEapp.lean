/- Append of bytes in a region that draws its order; rows of byte slices; == on items. Conditions: none beyond those typed. -/
import Derived.Test.YtfihaonpifoekaaEitem
import Derived.Test.YtfihaonpifoekaaEtext
import Derived.Deep.RegionHeld3
namespace Go.Proofs.Ytfihaonpifoekaa
open Go.ChangeShapes Go.WideShapes Go.ChangeAt Go.RowKit
set_option linter.unusedVariables false
set_option linter.unusedSimpArgs false
set_option maxRecDepth 100000

theorem step_app {ops : Array Oper} {o : Oper} {a : Act} {w : World} {K : Act → World → Prop} {Q : Exit → Act → World → Prop} {E : Prop} (hgd : o.guard = none) (s x : Operand)
    (ho : o.op = .call { callee := .builtin .append, args := #[s, x], argTypes := #[25, 25] })
    (base : Nat) (v : Value) (l : List Int) (hs : a.eval s = v) (A : Option Addr) (m c : Nat) (xs : List Int) (hx : a.eval x = .slice A m c)
    (hown : Own w base v l) (hr : Rd w A m c xs)
    (hbytes : l.length + m ≤ 140737488355328) (hbase : base ≤ w.heap.size)
    (h : ∀ v' w', Own w' base v' (l ++ xs) → w.grownBy w' v.ownBlock → (v'.ownBlock = v.ownBlock ∨ v'.ownBlock = some w.heap.size) → K (a.put o.dst v') w') :
    if Region.wanted o (yielded ops a.tmps) = true then Oper.wp Try.prog o a w K Q else E := by
  have hw : Region.wanted o (yielded ops a.tmps) = true := by simp [Region.wanted, hgd]
  rw [if_pos hw]
  obtain ⟨v', w', hr, h2, h3, h4⟩ := run_app base o.type v l hown A m c xs hr hbytes hbase
  unfold Oper.wp execOp
  simp only [ho, resolve, invoke, builtin, Sem.run_bind, Sem.run_pure, Result.andThen_ok, List.map_toArray, List.map_cons, List.map_nil, hs, hx, hr]
  exact h v' w' h2 h3 h4
theorem Rd.grown {w w' : World} {A : Option Addr} {n c : Nat} {l : List Int} {row : Option Nat} (h : Rd w A n c l) (hg : w.grownBy w' row) (hne : ∀ b o, A = some ⟨b, o, none⟩ → some b ≠ row) : Rd w' A n c l :=
  ⟨h.1, h.2.1, h.2.2.1, h.2.2.2.1, fun j t ht => by
    obtain ⟨b, o, hA, h1⟩ := h.2.2.2.2 j t ht
    exact ⟨b, o, hA, hg.cell h1 (hne b o hA)⟩⟩
theorem step_appB {ops : Array Oper} {o : Oper} {a : Act} {w : World} {K : Act → World → Prop} {Q : Exit → Act → World → Prop} {E : Prop} (W1 : World) (hgd : o.guard = none) (s x : Operand)
    (ho : o.op = .call { callee := .builtin .append, args := #[s, x], argTypes := #[25, 25] })
    (v : Value) (l : List Int) (hs : a.eval s = v) (A : Option Addr) (m c : Nat) (xs : List Int) (hx : a.eval x = .slice A m c)
    (hown : Own w W1.heap.size v l) (hr : Rd w A m c xs) (hbytes : l.length + m ≤ 140737488355328) (hB : Below W1.heap.size W1 w)
    (h : ∀ v' w', Own w' W1.heap.size v' (l ++ xs) → Below W1.heap.size W1 w' → (∀ A n c l, Rd w A n c l → (∀ b o, A = some ⟨b, o, none⟩ → v.ownBlock ≠ some b) → Rd w' A n c l) → K (a.put o.dst v') w') :
    if Region.wanted o (yielded ops a.tmps) = true then Oper.wp Try.prog o a w K Q else E :=
  step_app hgd s x ho W1.heap.size v l hs A m c xs hx hown hr hbytes hB.size fun v' w' hO hg _ =>
    h v' w' hO (Below.app hB hown hg hB.size (Nat.le_refl _)) fun A n c l hr hne => hr.grown hg fun b o e => fun e' => hne b o e e'.symm
theorem Own.empty' {w : World} {B h : Nat} (e : h = w.heap.size) (hB : B ≤ w.heap.size) : Own (w.alloc (.cells #[] 5)) B (.slice (some ⟨h, 0, none⟩) 0 0) [] := by
  subst e; exact (Own.empty w).weaken hB
theorem Rd.one' {w : World} {h : Nat} {z : Int} (e : h = w.heap.size) (hz : 0 ≤ z ∧ z ≤ 255) : Rd (w.alloc (.cells #[.int .u8 z] 5)) (some ⟨h, 0, none⟩) 1 1 [z] := by
  subst e; exact Rd.one w _ z hz
theorem bd1 (w : World) (o : Obj) : Below w.heap.size w (w.drew.alloc o) := (Below.refl _ _).drew.alloc (Nat.le_refl _) o
theorem bd2 (w : World) (o o' : Obj) : Below w.heap.size w ((w.drew.alloc o).alloc o') := (bd1 w o).alloc (bd1 w o).size o'
/-- Block g holds N slices of bytes. -/
def Bys (W : World) (g N : Nat) : Prop := ∀ k, k < N → ∃ A n c l, W.cell? ⟨g, k, none⟩ = some (.slice A n c) ∧ Rd W A n c l
theorem Bys.below {W W' : World} {g N : Nat} (h : Bys W g N) (hb : Below W.heap.size W W') : Bys W' g N := by
  intro k hk
  obtain ⟨A, n, c, l, h0, h1⟩ := h k hk
  exact ⟨A, n, c, l, (hb.cell (World.block_lt_of_cell? _ _ h0)).trans h0, h1.below hb⟩
theorem Bys.five {W : World} {A0 A1 A2 A3 A4 : Option Addr} {n0 n1 n2 n3 n4 c0 c1 c2 c3 c4 : Nat} {l0 l1 l2 l3 l4 : List Int} {t : TypeId} (h0 : Rd W A0 n0 c0 l0) (h1 : Rd W A1 n1 c1 l1) (h2 : Rd W A2 n2 c2 l2) (h3 : Rd W A3 n3 c3 l3) (h4 : Rd W A4 n4 c4 l4) :
    Bys (W.alloc (.cells #[.slice A0 n0 c0, .slice A1 n1 c1, .slice A2 n2 c2, .slice A3 n3 c3, .slice A4 n4 c4] t)) W.heap.size 5 := by
  intro k hk
  match k, hk with
  | 0, _ => exact ⟨A0, n0, c0, l0, by rw [World.cell?_alloc_at _ _ _ _ rfl]; rfl, h0.alloc _⟩
  | 1, _ => exact ⟨A1, n1, c1, l1, by rw [World.cell?_alloc_at _ _ _ _ rfl]; rfl, h1.alloc _⟩
  | 2, _ => exact ⟨A2, n2, c2, l2, by rw [World.cell?_alloc_at _ _ _ _ rfl]; rfl, h2.alloc _⟩
  | 3, _ => exact ⟨A3, n3, c3, l3, by rw [World.cell?_alloc_at _ _ _ _ rfl]; rfl, h3.alloc _⟩
  | 4, _ => exact ⟨A4, n4, c4, l4, by rw [World.cell?_alloc_at _ _ _ _ rfl]; rfl, h4.alloc _⟩
theorem itV_form (l : List Tg) (t x : Int) : ∃ s p q, itV l t x = .agg #[.string s, .int .i64 p, .int .u64 q] := by
  unfold itV
  split
  · exact ⟨_, _, _, rfl⟩
  · exact ⟨_, _, _, rfl⟩
end Go.Proofs.Ytfihaonpifoekaa
