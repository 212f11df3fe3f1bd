/- Rows that a statement makes anew: append upon append onto new memory, whatever order the draw picks. Conditions: none beyond those typed. -/
import Derived.Test.YtbdafhephmoedaaZcol
import Derived.Test.YtbdafhephmoedaaKtext
import Derived.Test.YtbdafhephmoedaaQlate
namespace Go.Proofs.Ytbdafhephmoedaa
open Go.ChangeShapes Go.WideShapes Go.ChangeAt Go.RowKit
set_option linter.unusedVariables false
set_option linter.unusedSimpArgs false

section
variable {w w' : World} {vK v' : Value}
/-- What the statement loads, in a world of its midst. -/
theorem cellB {W1 w' : World} {a : Addr} {v : Value} (hc : W1.cell? a = some v) (hB : Below W1.heap.size W1 w') : w'.cell? a = some v ∧ Below W1.heap.size W1 w' := ⟨(hB.cell (p := a) (World.block_lt_of_cell? _ _ hc)).trans hc, hB⟩
theorem bdM (w : World) : Below w.heap.size w w.drew := (Below.refl _ _).drew
theorem OwnK.empty' {α : Type} (K : Kind α) {h : Nat} {t : TypeId} (ht : K.ty = t) (e : h = w.heap.size) : OwnK K (w.alloc (.cells #[] t)) (.slice (some ⟨h, 0, none⟩) 0 0) [] := by subst ht; exact OwnK.empty K e
theorem RdG.one2 {α : Type} (K : Kind α) {h : Nat} {t : TypeId} {cs : Array Value} (a : α) (ht : K.ty = t) (hc : (K.enc a).toArray = cs) (e : h = w.heap.size) : RdG K (w.alloc (.cells cs t)) (some ⟨h, 0, none⟩) 1 1 [a] := by subst ht hc; exact RdG.one' K e a
theorem RdG.alloc' {α : Type} {K : Kind α} {A : Option Addr} {n c : Nat} {l : List α} (h : RdG K w A n c l) (o : Obj) : RdG K (w.alloc o) A n c l := h.below ((Below.refl _ _).alloc (Nat.le_refl _) o)
/-- append onto a row in new memory: nothing elder turns, nor what lies in other new blocks. -/
theorem step_appNC {α : Type} (K : Kind α) (W1 : World) {ops : Array Oper} {o : Oper} {a : Act} {Kk : Act → World → Prop} {Q : Exit → Act → World → Prop} {E : Prop} (hgd : o.guard = none) (s x : Operand)
    (ho : o.op = .call { callee := .builtin .append, args := #[s, x], argTypes := #[K.sl, K.sl] })
    (v : Value) (l : List α) (hs : a.eval s = v) (A : Option Addr) (m c : Nat) (xs : List α) (hx : a.eval x = .slice A m c)
    (hown : OwnK K w v l) (hn : New W1 v) (hB : Below W1.heap.size W1 w) (hr : RdG K w A m c xs) (hbytes : l.length + m ≤ 1000000000)
    (h : ∀ v' w', OwnK K w' v' (l ++ xs) → New W1 v' → Below W1.heap.size W1 w' → (∀ (b n c : Nat) (ys : List α), RdG K w (some ⟨b, 0, none⟩) n c ys → v.ownBlock ≠ some b → RdG K w' (some ⟨b, 0, none⟩) n c ys) → Kk (a.put o.dst v') w') :
    if Region.wanted o (yielded ops a.tmps) = true then Oper.wp Try.prog o a w Kk Q else E :=
  step_appG K hgd s x ho v l hs A m c xs hx hown hr hbytes fun v' w' hO hg hat => h v' w' hO (fun q hq => by
    rcases hat with e | e
    · exact hn q (e.symm.trans hq)
    · rw [e] at hq; injection hq with hq; have := hB.size; omega) (hB.grown hg hB.size fun q hq => hn q hq) fun b n c ys hR hne => hR.far fun b' o' e hl => by
      injection e with e; injection e with e; subst e
      exact hg.block b hl fun e => hne e.symm
/-- Amid the statement: the new row as it is now. -/
structure MidR {α : Type} (K : Kind α) (W1 W : World) (v : Value) (l : List α) : Prop where
  own : OwnK K W v l
  new : New W1 v
  bel : Below W1.heap.size W1 W
theorem RdG.inB {α : Type} {K : Kind α} {w : World} {b n c : Nat} {l : List α} (h : RdG K w (some ⟨b, 0, none⟩) (n + 1) c l) : b < w.heap.size := by
  obtain ⟨b', o', a, e, _, _, hb, _⟩ := h.at_ (j := 0) (by omega)
  injection e with e; injection e with e; omega
theorem emptyThen {α : Type} {C : Prop} (K : Kind α) {W1 W : World} {t : TypeId} (ht : K.ty = t) (hB : Below W1.heap.size W1 W) (kk : ∀ W' p, W.alloc (.cells #[] t) = W' → W.heap.size = p → MidR K W1 W' (.slice (some ⟨p, 0, none⟩) 0 0) [] → (∀ (b n c : Nat) (ys : List α), RdG K W (some ⟨b, 0, none⟩) n c ys → RdG K W' (some ⟨b, 0, none⟩) n c ys) → C) : C :=
  kk _ _ rfl rfl ⟨OwnK.empty' K ht rfl, New.lit hB.size, hB.alloc hB.size _⟩ fun _ _ _ _ h => h.alloc' _
theorem litThen {α : Type} {C : Prop} (K : Kind α) (a : α) {cs : Array Value} (hc : (K.enc a).toArray = cs) {W1 W : World} {t : TypeId} (ht : K.ty = t) (hB : Below W1.heap.size W1 W) (kk : ∀ W' p, W.alloc (.cells cs t) = W' → W.heap.size = p → Below W1.heap.size W1 W' → RdG K W' (some ⟨p, 0, none⟩) 1 1 [a] → (∀ (v : Value) (l : List α), MidR K W1 W v l → MidR K W1 W' v l ∧ v.ownBlock ≠ some p) → C) : C :=
  kk _ _ rfl rfl (hB.alloc hB.size _) (RdG.one2 K a ht hc rfl) fun v l h => ⟨⟨h.own.alloc _, h.new, h.bel.alloc h.bel.size _⟩, fun e => Nat.lt_irrefl _ (h.own.lt _ e)⟩
/-- The next append. -/
theorem MidR.step {α : Type} {K : Kind α} {W1 W : World} {ops : Array Oper} {o : Oper} {a : Act} {Kk : Act → World → Prop} {Q : Exit → Act → World → Prop} {E : Prop} {v : Value} {l : List α} (h : MidR K W1 W v l) (hgd : o.guard = none) (s x : Operand)
    (ho : o.op = .call { callee := .builtin .append, args := #[s, x], argTypes := #[K.sl, K.sl] })
    (hs : a.eval s = v) (A : Option Addr) (m c : Nat) (xs : List α) (hx : a.eval x = .slice A m c)
    (hr : RdG K W A m c xs) (hbytes : l.length + m ≤ 1000000000) {N : Nat} (hN : (l ++ xs).length = N)
    (kk : ∀ A' c' w', MidR K W1 w' (.slice A' N c') (l ++ xs) → (∀ (b n c : Nat) (ys : List α), RdG K W (some ⟨b, 0, none⟩) n c ys → v.ownBlock ≠ some b → RdG K w' (some ⟨b, 0, none⟩) n c ys) → Kk (a.put o.dst (.slice A' N c')) w') :
    if Region.wanted o (yielded ops a.tmps) = true then Oper.wp Try.prog o a W Kk Q else E := by
  refine step_appNC K W1 hgd s x ho v l hs A m c xs hx h.own h.new h.bel hr hbytes ?_
  intro v' w' h1 h2 h3 h4
  obtain ⟨A', c', rfl, _⟩ := h1.form hN
  exact kk A' c' w' ⟨h1, h2, h3⟩ h4
theorem lit_ne {h b m c : Nat} (e : h ≠ b) : (Value.slice (some ⟨h, 0, none⟩) m c).ownBlock ≠ some b := fun e' => by simp [Value.ownBlock] at e'; exact e e'
theorem New.app {W1 : World} (hn : New W1 vK) (hB : Below W1.heap.size W1 w) (hat : v'.ownBlock = vK.ownBlock ∨ v'.ownBlock = some w.heap.size) : New W1 v' := fun q hq => by
  rcases hat with e | e
  · exact hn q (e.symm.trans hq)
  · rw [e] at hq; injection hq with hq; have := hB.size; omega
end
end Go.Proofs.Ytbdafhephmoedaa
