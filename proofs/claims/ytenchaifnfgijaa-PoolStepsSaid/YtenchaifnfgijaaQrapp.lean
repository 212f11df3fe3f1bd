/- The specified pool in memory: its three rows grow together (keys, users, at = append.. in one statement). Conditions: none beyond those typed. -/
import Derived.Test.YtenchaifnfgijaaQref4
import Derived.Test.YtenchaifnfgijaaQlate
namespace Go.Proofs.Ytenchaifnfgijaa
open Go.ChangeShapes Go.WideShapes Go.ChangeAt Go.RowKit
set_option linter.unusedVariables false
set_option linter.unusedSimpArgs false
set_option maxRecDepth 100000

/-- A number more, which no key has. -/
def PSt.grow (q : PSt) : PSt := { q with e := q.e ++ [⟨⟨#[]⟩, 0, (0, 0, 0)⟩] }
/-- Amid the statement: the box as it was, the three rows as they are now. -/
structure App3 (col0 : Col) (W0 : World) (k g ga n N : Nat) (bK cK bU cU bH cH : Nat) (col : Col) (W : World) (vK vU vH : Value) (lK : List ByteArray) (lU : List Int) (lH : List Hd) : Prop where
  box : BoxC col W g k #[.pointer (some ⟨ga, 0, none⟩), .int .i64 n, .slice (some ⟨bK, 0, none⟩) N cK, .slice (some ⟨bU, 0, none⟩) N cU, .slice (some ⟨bH, 0, none⟩) N cH] 84
  ks : OwnKc kT col W (k + 1) vK lK
  us : OwnKc kI col W (k + 2) vU lU
  hs : OwnKc kH col W (k + 3) vH lH
  step : StepC (Rng k) col0 W0 col W
  k1 : 1 ≤ k
section
variable {col0 col col' : Col} {W0 W W' : World} {k g ga n N bK cK bU cU bH cH : Nat} {vK vU vH v' : Value} {lK : List ByteArray} {lU : List Int} {lH : List Hd}
theorem App3.S (h : App3 col0 W0 k g ga n N bK cK bU cU bH cH col W vK vU vH lK lU lH) : W.cell? ⟨g, 2, none⟩ = some (.slice (some ⟨bK, 0, none⟩) N cK) ∧ W.cell? ⟨g, 3, none⟩ = some (.slice (some ⟨bU, 0, none⟩) N cU) ∧ W.cell? ⟨g, 4, none⟩ = some (.slice (some ⟨bH, 0, none⟩) N cH) := ⟨h.box.cell 2 rfl, h.box.cell 3 rfl, h.box.cell 4 rfl⟩
theorem App3.tidy (h : App3 col0 W0 k g ga n N bK cK bU cU bH cH col W vK vU vH lK lU lH) : Tidy col W := h.step.tidy
theorem App3.keep {P : Nat → Prop} (h : App3 col0 W0 k g ga n N bK cK bU cU bH cH col W vK vU vH lK lU lH) (s : StepC P col W col' W') (hr : ∀ c, P c → Rng k c) (h0 : ¬ P k) (h1 : ¬ P (k + 1)) (h2 : ¬ P (k + 2)) (h3 : ¬ P (k + 3)) : App3 col0 W0 k g ga n N bK cK bU cU bH cH col' W' vK vU vH lK lU lH :=
  ⟨h.box.keep s h0, h.ks.keep s h1, h.us.keep s h2, h.hs.keep s h3, h.step.trans (s.mono hr), h.k1⟩
/-- A literal of one element. -/
theorem App3.lit {α : Type} (K : Kind α) (a : α) {cs : Array Value} (hc : (K.enc a).toArray = cs) (h : App3 col0 W0 k g ga n N bK cK bU cU bH cH col W vK vU vH lK lU lH) :
    ∃ W' p, W.alloc (.cells cs K.ty) = W' ∧ W.heap.size = p ∧ App3 col0 W0 k g ga n N bK cK bU cU bH cH col W' vK vU vH lK lU lH ∧ RdK0 K col W' (some ⟨p, 0, none⟩) 1 1 [a] ∧ StepC (Rng k) col W col W' := by
  subst hc
  have hb : Below W.heap.size W (W.alloc (.cells (K.enc a).toArray K.ty)) := (Below.refl _ _).alloc (Nat.le_refl _) _
  exact ⟨_, _, rfl, rfl, h.keep (P := fun _ => False) (StepC.below h.tidy hb) (fun _ h => h.elim) (fun h => h) (fun h => h) (fun h => h) (fun h => h), ⟨RdG.one' K rfl a, fun _ b o sp e => by injection e with e; injection e with e; subst e; exact h.tidy _ (Nat.le_refl _)⟩, StepC.below h.tidy hb⟩
theorem OwnK.form1 {α : Type} {K : Kind α} {w : World} {v : Value} {l : List α} {n : Nat} (h : OwnK K w v l) (hn : l.length = n) (h0 : 0 < n) : ∃ b c, v = .slice (some ⟨b, 0, none⟩) n c := by
  obtain ⟨A, c, rfl, _, _⟩ := h.form hn
  obtain ⟨b, rfl, _⟩ := h.head h0
  exact ⟨b, c, rfl⟩
theorem App3.appK (h : App3 col0 W0 k g ga n N bK cK bU cU bH cH col W vK vU vH lK lU lH) {l : List ByteArray} (ho : OwnK kT W' v' l) (hg : W.grownBy W' vK.ownBlock) (hv : v'.ownBlock = vK.ownBlock ∨ v'.ownBlock = some W.heap.size) :
    ∃ col', App3 col0 W0 k g ga n N bK cK bU cU bH cH col' W' v' vU vH l lU lH ∧ StepC (Rng k) col W col' W' := by
  have s := StepC.app (P := fun c => c = k + 1) h.tidy hg h.ks.col rfl hv ho.lt
  have hr : ∀ c, c = k + 1 → Rng k c := fun c e => ⟨by omega, by omega⟩
  exact ⟨_, ⟨h.box.keep s (by omega), OwnKc.mk' kT ho, h.us.keep s (by omega), h.hs.keep s (by omega), h.step.trans (s.mono hr), h.k1⟩, s.mono hr⟩
theorem App3.appU (h : App3 col0 W0 k g ga n N bK cK bU cU bH cH col W vK vU vH lK lU lH) {l : List Int} (ho : OwnK kI W' v' l) (hg : W.grownBy W' vU.ownBlock) (hv : v'.ownBlock = vU.ownBlock ∨ v'.ownBlock = some W.heap.size) :
    ∃ col', App3 col0 W0 k g ga n N bK cK bU cU bH cH col' W' vK v' vH lK l lH ∧ StepC (Rng k) col W col' W' := by
  have s := StepC.app (P := fun c => c = k + 2) h.tidy hg h.us.col rfl hv ho.lt
  have hr : ∀ c, c = k + 2 → Rng k c := fun c e => ⟨by omega, by omega⟩
  exact ⟨_, ⟨h.box.keep s (by omega), h.ks.keep s (by omega), OwnKc.mk' kI ho, h.hs.keep s (by omega), h.step.trans (s.mono hr), h.k1⟩, s.mono hr⟩
theorem App3.appH (h : App3 col0 W0 k g ga n N bK cK bU cU bH cH col W vK vU vH lK lU lH) {l : List Hd} (ho : OwnK kH W' v' l) (hg : W.grownBy W' vH.ownBlock) (hv : v'.ownBlock = vH.ownBlock ∨ v'.ownBlock = some W.heap.size) :
    ∃ col', App3 col0 W0 k g ga n N bK cK bU cU bH cH col' W' vK vU v' lK lU l ∧ StepC (Rng k) col W col' W' := by
  have s := StepC.app (P := fun c => c = k + 3) h.tidy hg h.hs.col rfl hv ho.lt
  have hr : ∀ c, c = k + 3 → Rng k c := fun c e => ⟨by omega, by omega⟩
  exact ⟨_, ⟨h.box.keep s (by omega), h.ks.keep s (by omega), h.us.keep s (by omega), OwnKc.mk' kH ho, h.step.trans (s.mono hr), h.k1⟩, s.mono hr⟩
theorem App3.litThen {α : Type} {C : Prop} (K : Kind α) (a : α) {cs : Array Value} (hc : (K.enc a).toArray = cs) (t : TypeId) (ht : K.ty = t) (h : App3 col0 W0 k g ga n N bK cK bU cU bH cH col W vK vU vH lK lU lH)
    (kk : ∀ W' p, W.alloc (.cells cs t) = W' → W.heap.size = p → App3 col0 W0 k g ga n N bK cK bU cU bH cH col W' vK vU vH lK lU lH → RdK0 K col W' (some ⟨p, 0, none⟩) 1 1 [a] → StepC (Rng k) col W col W' → C) : C := by
  subst ht
  obtain ⟨W', p, e1, e2, G, L, s⟩ := h.lit K a hc
  exact kk W' p e1 e2 G L s
theorem App3.stepK {ops : Array Oper} {o : Oper} {a : Act} {Kk : Act → World → Prop} {Q : Exit → Act → World → Prop} {E : Prop} (hgd : o.guard = none) (s x : Operand)
    (ho : o.op = .call { callee := .builtin .append, args := #[s, x], argTypes := #[kT.sl, kT.sl] }) (hs : a.eval s = vK) {p m : Nat} {z : ByteArray} (hx : a.eval x = .slice (some ⟨p, 0, none⟩) 1 1)
    (h : App3 col0 W0 k g ga n N bK cK bU cU bH cH col W vK vU vH lK lU lH) (hL : RdK0 kT col W (some ⟨p, 0, none⟩) 1 1 [z]) (hby : lK.length + 1 ≤ 1000000000) (hn : (lK ++ [z]).length = m) (h0 : 0 < m)
    (kk : ∀ b c w' col', App3 col0 W0 k g ga n N bK cK bU cU bH cH col' w' (.slice (some ⟨b, 0, none⟩) m c) vU vH (lK ++ [z]) lU lH → StepC (Rng k) col W col' w' → Kk (a.put o.dst (.slice (some ⟨b, 0, none⟩) m c)) w') :
    if Region.wanted o (yielded ops a.tmps) = true then Oper.wp Try.prog o a W Kk Q else E := by
  refine step_appG kT hgd s x ho vK lK hs (some ⟨p, 0, none⟩) 1 1 [z] hx h.ks.own hL.rd hby ?_
  intro v' w' O B hat
  obtain ⟨b, c, rfl⟩ := O.form1 hn h0
  obtain ⟨col', G, s⟩ := h.appK O B hat
  exact kk b c w' col' G s
theorem App3.stepU {ops : Array Oper} {o : Oper} {a : Act} {Kk : Act → World → Prop} {Q : Exit → Act → World → Prop} {E : Prop} (hgd : o.guard = none) (s x : Operand)
    (ho : o.op = .call { callee := .builtin .append, args := #[s, x], argTypes := #[kI.sl, kI.sl] }) (hs : a.eval s = vU) {p m : Nat} {z : Int} (hx : a.eval x = .slice (some ⟨p, 0, none⟩) 1 1)
    (h : App3 col0 W0 k g ga n N bK cK bU cU bH cH col W vK vU vH lK lU lH) (hL : RdK0 kI col W (some ⟨p, 0, none⟩) 1 1 [z]) (hby : lU.length + 1 ≤ 1000000000) (hn : (lU ++ [z]).length = m) (h0 : 0 < m)
    (kk : ∀ b c w' col', App3 col0 W0 k g ga n N bK cK bU cU bH cH col' w' vK (.slice (some ⟨b, 0, none⟩) m c) vH lK (lU ++ [z]) lH → StepC (Rng k) col W col' w' → Kk (a.put o.dst (.slice (some ⟨b, 0, none⟩) m c)) w') :
    if Region.wanted o (yielded ops a.tmps) = true then Oper.wp Try.prog o a W Kk Q else E := by
  refine step_appG kI hgd s x ho vU lU hs (some ⟨p, 0, none⟩) 1 1 [z] hx h.us.own hL.rd hby ?_
  intro v' w' O B hat
  obtain ⟨b, c, rfl⟩ := O.form1 hn h0
  obtain ⟨col', G, s⟩ := h.appU O B hat
  exact kk b c w' col' G s
theorem App3.stepH {ops : Array Oper} {o : Oper} {a : Act} {Kk : Act → World → Prop} {Q : Exit → Act → World → Prop} {E : Prop} (hgd : o.guard = none) (s x : Operand)
    (ho : o.op = .call { callee := .builtin .append, args := #[s, x], argTypes := #[kH.sl, kH.sl] }) (hs : a.eval s = vH) {p m : Nat} {z : Hd} (hx : a.eval x = .slice (some ⟨p, 0, none⟩) 1 1)
    (h : App3 col0 W0 k g ga n N bK cK bU cU bH cH col W vK vU vH lK lU lH) (hL : RdK0 kH col W (some ⟨p, 0, none⟩) 1 1 [z]) (hby : lH.length + 1 ≤ 1000000000) (hn : (lH ++ [z]).length = m) (h0 : 0 < m)
    (kk : ∀ b c w' col', App3 col0 W0 k g ga n N bK cK bU cU bH cH col' w' vK vU (.slice (some ⟨b, 0, none⟩) m c) lK lU (lH ++ [z]) → StepC (Rng k) col W col' w' → Kk (a.put o.dst (.slice (some ⟨b, 0, none⟩) m c)) w') :
    if Region.wanted o (yielded ops a.tmps) = true then Oper.wp Try.prog o a W Kk Q else E := by
  refine step_appG kH hgd s x ho vH lH hs (some ⟨p, 0, none⟩) 1 1 [z] hx h.hs.own hL.rd hby ?_
  intro v' w' O B hat
  obtain ⟨b, c, rfl⟩ := O.form1 hn h0
  obtain ⟨col', G, s⟩ := h.appH O B hat
  exact kk b c w' col' G s
theorem App3.begin {q : PSt} (h : RefQB col k W g ga q bK cK bU cU bH cH) (ht : Tidy col W) (hN : q.e.length + 1 = N) : App3 col W k g ga q.n N bK cK bU cU bH cH col W.drew (.slice (some ⟨bK, 0, none⟩) N cK) (.slice (some ⟨bU, 0, none⟩) N cU) (.slice (some ⟨bH, 0, none⟩) N cH) (ksR q.e) (usR q.e) (hsR q.e) := by
  subst hN
  have h' := h.below ht (Below.refl _ _).drew
  exact ⟨h'.box, h'.ks, h'.us, h'.hs, StepC.drew ht, h.k1⟩
theorem ks_grow (q : PSt) : ksR q.grow.e = ksR q.e ++ [⟨#[]⟩] := by simp [ksR, PSt.grow]
theorem us_grow (q : PSt) : usR q.grow.e = usR q.e ++ [0] := by simp [usR, PSt.grow]
theorem hs_grow (q : PSt) : hsR q.grow.e = hsR q.e ++ [(0, 0, 0)] := by simp [hsR, PSt.grow]
theorem App3.fin {q : PSt} {b1 c1 b2 c2 b3 c3 : Nat} (hN : q.e.length + 1 = N) (h : App3 col0 W0 k g ga q.n N bK cK bU cU bH cH col W (.slice (some ⟨b1, 0, none⟩) (N + 1) c1) (.slice (some ⟨b2, 0, none⟩) (N + 1) c2) (.slice (some ⟨b3, 0, none⟩) (N + 1) c3) (ksR q.e ++ [⟨#[]⟩]) (usR q.e ++ [0]) (hsR q.e ++ [(0, 0, 0)])) :
    RefQB col k (((W.setCell ⟨g, 2, none⟩ (.slice (some ⟨b1, 0, none⟩) (N + 1) c1)).setCell ⟨g, 3, none⟩ (.slice (some ⟨b2, 0, none⟩) (N + 1) c2)).setCell ⟨g, 4, none⟩ (.slice (some ⟨b3, 0, none⟩) (N + 1) c3)) g ga q.grow b1 c1 b2 c2 b3 c3
      ∧ StepC (Rng k) col0 W0 col (((W.setCell ⟨g, 2, none⟩ (.slice (some ⟨b1, 0, none⟩) (N + 1) c1)).setCell ⟨g, 3, none⟩ (.slice (some ⟨b2, 0, none⟩) (N + 1) c2)).setCell ⟨g, 4, none⟩ (.slice (some ⟨b3, 0, none⟩) (N + 1) c3)) := by
  have hl : q.grow.e.length + 1 = N + 1 := by simp [PSt.grow]; omega
  have s1 : StepC (fun c => c = k) col W col _ := StepC.set h.tidy (a := ⟨g, 2, none⟩) h.box.col (.slice (some ⟨b1, 0, none⟩) (N + 1) c1)
  have B1 := h.box.put 2 (.slice (some ⟨b1, 0, none⟩) (N + 1) c1)
  have s2 : StepC (fun c => c = k) col _ col _ := StepC.set s1.tidy (a := ⟨g, 3, none⟩) B1.col (.slice (some ⟨b2, 0, none⟩) (N + 1) c2)
  have B2 := B1.put 3 (.slice (some ⟨b2, 0, none⟩) (N + 1) c2)
  have s3 : StepC (fun c => c = k) col _ col _ := StepC.set s2.tidy (a := ⟨g, 4, none⟩) B2.col (.slice (some ⟨b3, 0, none⟩) (N + 1) c3)
  have B3 := B2.put 4 (.slice (some ⟨b3, 0, none⟩) (N + 1) c3)
  have s := (s1.trans s2).trans s3
  refine ⟨⟨?_, ?_, ?_, ?_, h.k1⟩, h.step.trans (s.mono fun c e => ⟨by omega, by omega⟩)⟩
  · rw [hl]; exact B3
  · rw [hl, ks_grow]; exact h.ks.keep s (by omega)
  · rw [hl, us_grow]; exact h.us.keep s (by omega)
  · rw [hl, hs_grow]; exact h.hs.keep s (by omega)
end
end Go.Proofs.Ytenchaifnfgijaa
