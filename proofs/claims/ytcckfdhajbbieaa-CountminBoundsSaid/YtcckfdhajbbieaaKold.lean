/- append onto an own row: the elder slice reads as it read. Conditions: the row is the call's own. -/
import Derived.Test.YtcckfdhajbbieaaKrow
namespace Go.Proofs.Ytcckfdhajbbieaa
open Go.ChangeShapes Go.WideShapes Go.ChangeAt Go.RowKit
set_option linter.unusedVariables false
set_option linter.unusedSimpArgs false

section
variable {α : Type} {K : Kind α} {w : World}
theorem appK_old (ty : TypeId) {A : Option Addr} {n c : Nat} (l : List α) (hown : OwnK K w (.slice A n c) l) (ad : Addr) (m c2 : Nat) (xs : List α) (hr : RdG K w (some ad) m c2 xs) (hbytes : l.length + m ≤ 1000000000)
    {v' : Value} {w' : World} (hrun : (Builtin.append_ #[K.sl, K.sl] ty #[.slice A n c, .slice (some ad) m c2]).run Try.prog w = .ok v' w') (hO : OwnK K w' v' (l ++ xs)) : RdG K w' A n c l := by
  have hln := hown.len
  obtain ⟨i0, hi0, hz0, hz1, hz2⟩ := info_parts K.info
  have hlen := hr.1
  have hcells : ∀ j u, (cellsK K xs)[j]? = some u → w.cell? (ad.add j) = some u := by
    intro j u hu
    obtain ⟨q, a, i, h1, rfl, h3, h4⟩ := cellsK_get hu
    obtain ⟨b, o, h, hc⟩ := hr.2.2.2 q a h1
    obtain rfl := Option.some.inj h
    rw [Addr.add_lit, ← Nat.add_assoc]
    exact hc i u h4
  have hsm : (l.length + m) * K.by_ ≤ 1000000000 * 100000 := Nat.mul_le_mul hbytes K.small
  have hread := hown.reads
  rcases hown.2 with ⟨e, _⟩ | ⟨g, cap, cur, e, _, hg, hnc, hcm, hcs, htake⟩
  · injection e with e1 e2 e3
    subst e1 e2 e3
    have : l = [] := List.eq_nil_of_length_eq_zero hln
    subst this
    exact RdG.nil _ _ _ (Nat.zero_le _)
  · injection e with e1 e2 e3
    subst e1 e2 e3
    by_cases hroom : l.length + m ≤ c
    · have hfit : l.length * i0.size + (cellsK K xs).length ≤ cur.size := by
        rw [cellsK_length, hlen, hcs, hz1, ← Nat.add_mul]; exact Nat.mul_le_mul_right _ hroom
      have h2 := run_append_room (P := Try.prog) w K.sl ty K.ty i0 K.under hi0 g l.length c cur hg ad m c2 (cellsK K xs) (by rw [cellsK_length, hlen, hz1]) hcells (fun u hu => cellsK_mem hu) hroom hfit
      rw [h2] at hrun
      injection hrun with h3 h4
      subst h3
      have h5 := hO.reads.head (j := l.length) (by omega)
      rw [List.take_left] at h5
      exact h5
    · have holds : ∀ j u, (cellsK K l)[j]? = some u → w.cell? ((⟨g, 0, none⟩ : Addr).add j) = some u := hown.cells (g := g) rfl
      have hb : (l.length + m) * i0.bytes ≤ 140737488355328 := by rw [hz2]; omega
      have h2 := run_append_grow (P := Try.prog) w K.sl ty K.ty i0 K.zero K.under hi0 hz0 ⟨g, 0, none⟩ l.length c (cellsK K l) (by rw [cellsK_length, hz1]) holds ad m c2 (cellsK K xs) (by rw [cellsK_length, hlen, hz1]) hcells (by omega) (by omega) (growslice_fits (by omega) hb)
      rw [h2] at hrun
      injection hrun with h3 h4
      subst h4
      exact hread.below ((Below.refl _ _).drew.alloc (Nat.le_refl _) _)
/-- append at an operation: what is read through the elder slice stands. -/
theorem wpList_appKo (K : Kind α) {ops : Array Oper} {rest : List Oper} {o : Oper} {a : Act} {Q : Exit → Act → World → Prop} (hgd : o.guard = none) (s x : Operand)
    (ho : o.op = .call { callee := .builtin .append, args := #[s, x], argTypes := #[K.sl, K.sl] })
    {A0 : Option Addr} {n0 c0 : Nat} (l : List α) (hs : a.eval s = .slice A0 n0 c0) (ad : Addr) (m c : Nat) (xs : List α) (hx : a.eval x = .slice (some ad) m c)
    (hown : OwnK K w (.slice A0 n0 c0) l) (hr : RdG K w (some ad) m c xs) (hbytes : l.length + m ≤ 1000000000)
    (h : ∀ v' w', OwnK K w' v' (l ++ xs) → RdG K w' A0 n0 c0 l → w.grownBy w' (Value.slice A0 n0 c0).ownBlock → (v'.ownBlock = (Value.slice A0 n0 c0).ownBlock ∨ v'.ownBlock = some w.heap.size) → wpList Try.prog ops Q rest (a.put o.dst v') w') :
    wpList Try.prog ops Q (o :: rest) a w :=
  wpList_plain hgd fun Kk hK => by
    obtain ⟨v', w', hrn, h2, h3, h4⟩ := run_appK o.type _ l hown (some ad) m c xs hr hbytes
    have h5 := appK_old o.type l hown ad m c xs hr hbytes hrn h2
    unfold Oper.wp execOp
    simp only [ho, resolve, invoke, builtin, Sem.run_bind, Sem.run_pure, Result.andThen_ok, List.map_toArray, List.map_cons, List.map_nil, hs, hx, hrn]
    exact hK _ _ (h v' w' h2 h5 h3 h4)
end
end Go.Proofs.Ytcckfdhajbbieaa
