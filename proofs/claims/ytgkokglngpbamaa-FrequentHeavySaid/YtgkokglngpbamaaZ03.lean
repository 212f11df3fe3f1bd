/- Words laid together in one text. Conditions: none beyond those typed. -/
import Derived.OrdersHeld
import Derived.Deep.RegionHeld
import Derived.Test.YtgkokglngpbamaaZ02
import Derived.Laws.OwnMore
import Derived.Test.YtgkokglngpbamaaZ01
import Derived.Test.YtgkokglngpbamaaBm
/- A region that draws its order, in which loads are taken first although later operations write what they read: those operations wait for every load. Conditions: none beyond those typed. -/
namespace Go.Proofs.Ytgkokglngpbamaa
section
variable {P : Program} {ops : Array Oper} {Q : Exit → Act → World → Prop} {md : Region.Mode} {S : World → Prop} {late : Nat → Bool}
/-- Whatever order is picked from here on; S holds behind each operation that is not late. -/
def wpAnyL (P : Program) (md : Region.Mode) (ops : Array Oper) (Q : Exit → Act → World → Prop) (S : World → Prop) (late : Nat → Bool) : Nat → Array Bool → Act → World → Prop
  | 0, listed, a, w => Region.ready md ops listed = [] ∧ Q .normal a w
  | fuel + 1, listed, a, w =>
    (Region.ready md ops listed = [] → Q .normal a w) ∧
    ∀ i ∈ Region.ready md ops listed, wpOp P ops Q i (fun a' w' => (late i = false → S w') ∧ wpAnyL P md ops Q S late fuel (listed.setIfInBounds i true) a' w') a w
theorem wpAny_of_late : ∀ (fuel : Nat) (listed : Array Bool) (a : Act) (w : World), wpAnyL P md ops Q S late fuel listed a w → wpAny P md ops Q fuel listed a w
  | 0, _, _, _, h => h
  | fuel + 1, _, _, _, h => ⟨h.1, fun i hi => wpOp_mono (fun a' w' h' => wpAny_of_late fuel _ a' w' h'.2) (h.2 i hi)⟩
/-- Each late operation that has not come up yet waits for i. -/
def lateWaits (md : Region.Mode) (ops : Array Oper) (late : Nat → Bool) (listed : Array Bool) (i : Nat) : Bool :=
  (List.range ops.size).all fun j => !late j || listed.getD j true || match ops[j]? with
    | some oj => oj.after.any fun e => Region.binds md e && e.on == i
    | none => true
theorem lateWaits_spec {i : Nat} {listed : Array Bool} (h : lateWaits md ops late listed i = true) (j : Nat) (oj : Oper) (hj : ops[j]? = some oj) (hl : late j = true) (hu : listed.getD j true = false) : ∃ e ∈ oj.after, Region.binds md e = true ∧ e.on = i := by
  unfold lateWaits at h
  have hlt := (Array.getElem?_eq_some_iff.1 hj).1
  have := List.all_eq_true.1 h j (List.mem_range.2 hlt)
  rw [hj, hl, hu] at this
  simp at this
  obtain ⟨k, hk, h1, h2⟩ := this
  exact ⟨_, Array.getElem_mem hk, h1, h2⟩
theorem unlisted {listed : Array Bool} {i k : Nat} (h : (listed.setIfInBounds i true).getD k true = false) : listed.getD k true = false := by
  by_cases e : i = k
  · subst e
    rcases Nat.lt_or_ge i listed.size with h' | h'
    · simp [h'] at h
    · simp [h'] at h
  · rwa [getD_set_ne true e] at h
/-- A late operation that yields its value in whatever world is taken first. -/
theorem wpAnyL_firstY {i : Nat} {oi : Oper} {v : Value} (hi : ops[i]? = some oi) (hsel : ∀ (j : Nat) (o : Oper) cs b, ops[j]? = some o → o.op ≠ .select cs b) (hl : late i = true)
    (hQ : ∀ c a w, Q (.panic c) (a.put oi.dst v) w → Q (.panic c) a w) :
    ∀ (fuel : Nat) (listed : Array Bool) (a : Act) (w : World),
      (∀ j oj, ops[j]? = some oj → j ≠ i → listed.getD j true = false → (∀ e ∈ oj.after, Region.binds md e = true → e.on ≠ i) → oi.apart ops oj = true) →
      i ∈ Region.ready md ops listed → Yields P ops oi v a →
      wpAnyL P md ops Q S late fuel (listed.setIfInBounds i true) (a.put oi.dst v) w → wpAnyL P md ops Q S late (fuel + 1) listed a w := by
  intro fuel
  induction fuel with
  | zero =>
    intro listed a w _ hr hy H
    refine ⟨fun h => (by rw [h] at hr; cases hr), fun j hj => ?_⟩
    by_cases hji : j = i
    · subst hji; exact hy.wpOp hi ⟨fun h => absurd (hl.symm.trans h) (by decide), H⟩
    · have := ready_mono hj hji
      rw [H.1] at this
      cases this
  | succ fuel ih =>
    intro listed a w hfree hr hy H
    refine ⟨fun h => (by rw [h] at hr; cases hr), fun j hj => ?_⟩
    by_cases hji : j = i
    · subst hji; exact hy.wpOp hi ⟨fun h => absurd (hl.symm.trans h) (by decide), H⟩
    · have h1 := H.2 j (ready_mono hj hji)
      obtain ⟨hjun, oj, hoj, hall⟩ := mem_ready.1 hj
      have hnot : ∀ e ∈ oj.after, Region.binds md e = true → e.on ≠ i := fun e he hb heq => by
        have h1 := hall e he hb
        have h0 := (mem_ready.1 hr).1
        rw [heq] at h1
        rcases Nat.lt_or_ge i listed.size with h' | h'
        · simp [h'] at h0 h1; rw [h0] at h1; cases h1
        · simp [Array.getElem?_eq_none h'] at h1
      have h2 := wpOp_put hoj (hfree j oj hoj hji hjun hnot) (fun cs b => hsel i oi cs b hi) (fun cs b => hsel j oj cs b hoj) hQ hy h1
      have hfree' : ∀ k ok, ops[k]? = some ok → k ≠ i → (listed.setIfInBounds j true).getD k true = false →
          (∀ e ∈ ok.after, Region.binds md e = true → e.on ≠ i) → oi.apart ops ok = true := fun k ok hk hki hun hno => hfree k ok hk hki (unlisted hun) hno
      refine wpOp_mono (fun a' w' h3 => ⟨h3.2.1, ih (listed.setIfInBounds j true) a' w' hfree' (ready_mono hr (Ne.symm hji)) h3.1 ?_⟩) h2
      rw [Array.setIfInBounds_comm _ _ hji]
      exact h3.2.2
theorem wpAnyL_first {i : Nat} {oi : Oper} {v : Value} (hi : ops[i]? = some oi) (hsel : ∀ (j : Nat) (o : Oper) cs b, ops[j]? = some o → o.op ≠ .select cs b)
    (hQ : ∀ c a w, Q (.panic c) (a.put oi.dst v) w → Q (.panic c) a w) :
    ∀ (fuel : Nat) (listed : Array Bool) (a : Act) (w : World),
      (∀ j oj, ops[j]? = some oj → late j = true → listed.getD j true = false → ∃ e ∈ oj.after, Region.binds md e = true ∧ e.on = i) →
      (∀ j oj, ops[j]? = some oj → j ≠ i → listed.getD j true = false → (∀ e ∈ oj.after, Region.binds md e = true → e.on ≠ i) → oi.apart ops oj = true) →
      i ∈ Region.ready md ops listed → YieldsIf P ops S oi v a → S w →
      wpAnyL P md ops Q S late fuel (listed.setIfInBounds i true) (a.put oi.dst v) w → wpAnyL P md ops Q S late (fuel + 1) listed a w := by
  intro fuel
  induction fuel with
  | zero =>
    intro listed a w _ _ hr hy hS H
    refine ⟨fun h => (by rw [h] at hr; cases hr), fun j hj => ?_⟩
    by_cases hji : j = i
    · subst hji; exact hy.wpOp hi hS ⟨fun _ => hS, H⟩
    · have := ready_mono hj hji
      rw [H.1] at this
      cases this
  | succ fuel ih =>
    intro listed a w hlate hfree hr hy hS H
    refine ⟨fun h => (by rw [h] at hr; cases hr), fun j hj => ?_⟩
    by_cases hji : j = i
    · subst hji; exact hy.wpOp hi hS ⟨fun _ => hS, H⟩
    · have h1 := H.2 j (ready_mono hj hji)
      obtain ⟨hjun, oj, hoj, hall⟩ := mem_ready.1 hj
      have hnot : ∀ e ∈ oj.after, Region.binds md e = true → e.on ≠ i := fun e he hb heq => by
        have h1 := hall e he hb
        have h0 := (mem_ready.1 hr).1
        rw [heq] at h1
        rcases Nat.lt_or_ge i listed.size with h' | h'
        · simp [h'] at h0 h1; rw [h0] at h1; cases h1
        · simp [Array.getElem?_eq_none h'] at h1
      have hjl : late j = false := by
        cases hl : late j with
        | false => rfl
        | true =>
          obtain ⟨e, he, hb, heq⟩ := hlate j oj hoj hl hjun
          exact absurd heq (hnot e he hb)
      have h2 := wpOp_putIf hoj (hfree j oj hoj hji hjun hnot) (fun cs b => hsel i oi cs b hi) (fun cs b => hsel j oj cs b hoj) hQ hy h1
      have hfree' : ∀ k ok, ops[k]? = some ok → k ≠ i → (listed.setIfInBounds j true).getD k true = false →
          (∀ e ∈ ok.after, Region.binds md e = true → e.on ≠ i) → oi.apart ops ok = true := fun k ok hk hki hun hno => by
        refine hfree k ok hk hki ?_ hno
        by_cases hjk : j = k
        · subst hjk; exact hjun
        · rw [getD_set_ne true hjk] at hun; exact hun
      refine wpOp_mono (fun a' w' h3 => ⟨h3.2.1, ih (listed.setIfInBounds j true) a' w' (fun k ok hk hkl hun => hlate k ok hk hkl (unlisted hun)) hfree' (ready_mono hr (Ne.symm hji)) h3.1 (h3.2.1 hjl) ?_⟩) h2
      rw [Array.setIfInBounds_comm _ _ hji]
      exact h3.2.2
/-- Number i is taken first: it yields v in every world that meets S, and every late operation waits for it. -/
theorem wpAnyL_take (i : Nat) (oi : Oper) (v : Value) {fuel : Nat} {listed : Array Bool} {a : Act} {w : World} (hi : ops[i]? = some oi)
    (hs : Region.noSelect ops = true) (hf : Region.free md ops listed i = true) (hr : (Region.ready md ops listed).contains i = true) (hl : lateWaits md ops late listed i = true)
    (hQ : ∀ c a w, Q (.panic c) (a.put oi.dst v) w → Q (.panic c) a w) (hy : YieldsIf P ops S oi v a) (hS : S w)
    (h : wpAnyL P md ops Q S late fuel (listed.setIfInBounds i true) (a.put oi.dst v) w) : wpAnyL P md ops Q S late (fuel + 1) listed a w :=
  wpAnyL_first hi (Region.noSelect_spec hs) hQ fuel listed a w (lateWaits_spec hl) (Region.free_spec hi hf) (by simpa using hr) hy hS h
theorem wpAnyL_takeY (i : Nat) (oi : Oper) (v : Value) {fuel : Nat} {listed : Array Bool} {a : Act} {w : World} (hi : ops[i]? = some oi)
    (hs : Region.noSelect ops = true) (hf : Region.free md ops listed i = true) (hr : (Region.ready md ops listed).contains i = true) (hl : late i = true)
    (hQ : ∀ c a w, Q (.panic c) (a.put oi.dst v) w → Q (.panic c) a w) (hy : Yields P ops oi v a)
    (h : wpAnyL P md ops Q S late fuel (listed.setIfInBounds i true) (a.put oi.dst v) w) : wpAnyL P md ops Q S late (fuel + 1) listed a w :=
  wpAnyL_firstY hi (Region.noSelect_spec hs) hl hQ fuel listed a w (Region.free_spec hi hf) (by simpa using hr) hy h
/-- Number i comes up next. -/
def LateStep (P : Program) (md : Region.Mode) (ops : Array Oper) (Q : Exit → Act → World → Prop) (S : World → Prop) (late : Nat → Bool) (fuel : Nat) (listed : Array Bool) (i : Nat) (a : Act) (w : World) : Prop :=
  wpOp P ops Q i (fun a' w' => (late i = false → S w') ∧ wpAnyL P md ops Q S late fuel (listed.setIfInBounds i true) a' w') a w
theorem lateNil {fuel : Nat} {listed : Array Bool} {a : Act} {w : World} : ∀ i ∈ ([] : List Nat), LateStep P md ops Q S late fuel listed i a w := fun _ h => by cases h
theorem lateCons {fuel : Nat} {listed : Array Bool} {a : Act} {w : World} {i : Nat} {rs : List Nat} (h : LateStep P md ops Q S late fuel listed i a w) (hs : ∀ i ∈ rs, LateStep P md ops Q S late fuel listed i a w) : ∀ j ∈ i :: rs, LateStep P md ops Q S late fuel listed j a w := fun j hj => by
  rcases List.mem_cons.1 hj with rfl | hj
  · exact h
  · exact hs j hj
theorem wpAnyL_all {fuel : Nat} {listed : Array Bool} {a : Act} {w : World} (rs : List Nat) (hr : Region.ready md ops listed = rs) (hne : rs ≠ [])
    (h : ∀ i ∈ rs, LateStep P md ops Q S late fuel listed i a w) : wpAnyL P md ops Q S late (fuel + 1) listed a w :=
  ⟨fun h0 => absurd (hr ▸ h0) hne, hr ▸ h⟩
/-- One that may come up comes up. -/
theorem wpOpL_step {i fuel : Nat} {listed : Array Bool} {a : Act} {w : World} (o : Oper) (hi : ops[i]? = some o)
    (h : ∀ K : Act → World → Prop, Shut (∀ a w, (late i = false → S w) → wpAnyL P md ops Q S late fuel (listed.setIfInBounds i true) a w → K a w) → if Region.wanted o (yielded ops a.tmps) = true then Oper.wp P o a w K Q else K (a.put o.dst undef) w) :
    LateStep P md ops Q S late fuel listed i a w :=
  wpOp_step hi fun K hK => h K fun a w hS hW => hK a w ⟨hS, hW⟩
theorem wpAnyL_done {listed : Array Bool} {a : Act} {w : World} (hr : Region.ready md ops listed = []) (h : Q .normal a w) : ∀ fuel, wpAnyL P md ops Q S late fuel listed a w
  | 0 => ⟨hr, h⟩
  | _ + 1 => ⟨fun _ => h, by rw [hr]; simp⟩
theorem wp_region_late {id : Nat} {a : Act} {w : World} (S : World → Prop) (late : Nat → Bool) (hm : P.follows .mixedOrders = true)
    (h : ∀ u, w.drew = u → wpAnyL P .any ops Q S late ops.size (Array.replicate ops.size false) a u) : (Code.region id ops true).wp P Q a w :=
  wp_region_any hm (wpAny_of_late _ _ _ _ (h _ rfl))
end
end Go.Proofs.Ytgkokglngpbamaa

/- Rows that a statement makes anew: append upon append onto new memory, whatever order the draw picks. Conditions: none beyond those typed. -/
namespace Go.Proofs.Ytgkokglngpbamaa
open Go.ChangeShapes Go.WideShapes Go.ChangeAt Go.RowKit
set_option linter.unusedVariables false
set_option linter.unusedSimpArgs false

section
variable {w w' : World} {vK v' : Value}
/-- What the statement loads, in a world of its midst. -/
theorem cellB {W1 w' : World} {a : Addr} {v : Value} (hc : W1.cell? a = some v) (hB : Below W1.heap.size W1 w') : w'.cell? a = some v ∧ Below W1.heap.size W1 w' := ⟨(hB.cell (p := a) (World.block_lt_of_cell? _ _ hc)).trans hc, hB⟩
theorem bdM (w : World) : Below w.heap.size w w.drew := (Below.refl _ _).drew
theorem OwnK.empty' {α : Type} (K : Kind α) {h : Nat} {t : TypeId} (ht : K.ty = t) (e : h = w.heap.size) : OwnK K (w.alloc (.cells #[] t)) (.slice (some ⟨h, 0, none⟩) 0 0) [] := by subst ht; exact OwnK.empty K e
theorem RdG.one2 {α : Type} (K : Kind α) {h : Nat} {t : TypeId} {cs : Array Value} (a : α) (ht : K.ty = t) (hc : (K.enc a).toArray = cs) (e : h = w.heap.size) : RdG K (w.alloc (.cells cs t)) (some ⟨h, 0, none⟩) 1 1 [a] := by subst ht hc; exact RdG.one' K e a
theorem RdG.alloc' {α : Type} {K : Kind α} {A : Option Addr} {n c : Nat} {l : List α} (h : RdG K w A n c l) (o : Obj) : RdG K (w.alloc o) A n c l := h.below ((Below.refl _ _).alloc (Nat.le_refl _) o)
/-- append onto a row in new memory: nothing elder turns, nor what lies in other new blocks. -/
theorem step_appNC {α : Type} (K : Kind α) (W1 : World) {ops : Array Oper} {o : Oper} {a : Act} {Kk : Act → World → Prop} {Q : Exit → Act → World → Prop} {E : Prop} (hgd : o.guard = none) (s x : Operand)
    (ho : o.op = .call { callee := .builtin .append, args := #[s, x], argTypes := #[K.sl, K.sl] })
    (v : Value) (l : List α) (hs : a.eval s = v) (A : Option Addr) (m c : Nat) (xs : List α) (hx : a.eval x = .slice A m c)
    (hown : OwnK K w v l) (hn : New W1 v) (hB : Below W1.heap.size W1 w) (hr : RdG K w A m c xs) (hbytes : l.length + m ≤ 1000000000)
    (h : ∀ v' w', OwnK K w' v' (l ++ xs) → New W1 v' → Below W1.heap.size W1 w' → (∀ (b n c : Nat) (ys : List α), RdG K w (some ⟨b, 0, none⟩) n c ys → v.ownBlock ≠ some b → RdG K w' (some ⟨b, 0, none⟩) n c ys) → Kk (a.put o.dst v') w') :
    if Region.wanted o (yielded ops a.tmps) = true then Oper.wp Try.prog o a w Kk Q else E :=
  step_appG K hgd s x ho v l hs A m c xs hx hown hr hbytes fun v' w' hO hg hat => h v' w' hO (fun q hq => by
    rcases hat with e | e
    · exact hn q (e.symm.trans hq)
    · rw [e] at hq; injection hq with hq; have := hB.size; omega) (hB.grown hg hB.size fun q hq => hn q hq) fun b n c ys hR hne => hR.far fun b' o' e hl => by
      injection e with e; injection e with e; subst e
      exact hg.block b hl fun e => hne e.symm
/-- Amid the statement: the new row as it is now. -/
structure MidR {α : Type} (K : Kind α) (W1 W : World) (v : Value) (l : List α) : Prop where
  own : OwnK K W v l
  new : New W1 v
  bel : Below W1.heap.size W1 W
theorem RdG.inB {α : Type} {K : Kind α} {w : World} {b n c : Nat} {l : List α} (h : RdG K w (some ⟨b, 0, none⟩) (n + 1) c l) : b < w.heap.size := by
  obtain ⟨b', o', a, e, _, _, hb, _⟩ := h.at_ (j := 0) (by omega)
  injection e with e; injection e with e; omega
theorem emptyThen {α : Type} {C : Prop} (K : Kind α) {W1 W : World} {t : TypeId} (ht : K.ty = t) (hB : Below W1.heap.size W1 W) (kk : ∀ W' p, W.alloc (.cells #[] t) = W' → W.heap.size = p → MidR K W1 W' (.slice (some ⟨p, 0, none⟩) 0 0) [] → (∀ (b n c : Nat) (ys : List α), RdG K W (some ⟨b, 0, none⟩) n c ys → RdG K W' (some ⟨b, 0, none⟩) n c ys) → C) : C :=
  kk _ _ rfl rfl ⟨OwnK.empty' K ht rfl, New.lit hB.size, hB.alloc hB.size _⟩ fun _ _ _ _ h => h.alloc' _
theorem litThen {α : Type} {C : Prop} (K : Kind α) (a : α) {cs : Array Value} (hc : (K.enc a).toArray = cs) {W1 W : World} {t : TypeId} (ht : K.ty = t) (hB : Below W1.heap.size W1 W) (kk : ∀ W' p, W.alloc (.cells cs t) = W' → W.heap.size = p → Below W1.heap.size W1 W' → RdG K W' (some ⟨p, 0, none⟩) 1 1 [a] → (∀ (v : Value) (l : List α), MidR K W1 W v l → MidR K W1 W' v l ∧ v.ownBlock ≠ some p) → C) : C :=
  kk _ _ rfl rfl (hB.alloc hB.size _) (RdG.one2 K a ht hc rfl) fun v l h => ⟨⟨h.own.alloc _, h.new, h.bel.alloc h.bel.size _⟩, fun e => Nat.lt_irrefl _ (h.own.lt _ e)⟩
/-- The next append. -/
theorem MidR.step {α : Type} {K : Kind α} {W1 W : World} {ops : Array Oper} {o : Oper} {a : Act} {Kk : Act → World → Prop} {Q : Exit → Act → World → Prop} {E : Prop} {v : Value} {l : List α} (h : MidR K W1 W v l) (hgd : o.guard = none) (s x : Operand)
    (ho : o.op = .call { callee := .builtin .append, args := #[s, x], argTypes := #[K.sl, K.sl] })
    (hs : a.eval s = v) (A : Option Addr) (m c : Nat) (xs : List α) (hx : a.eval x = .slice A m c)
    (hr : RdG K W A m c xs) (hbytes : l.length + m ≤ 1000000000) {N : Nat} (hN : (l ++ xs).length = N)
    (kk : ∀ A' c' w', MidR K W1 w' (.slice A' N c') (l ++ xs) → (∀ (b n c : Nat) (ys : List α), RdG K W (some ⟨b, 0, none⟩) n c ys → v.ownBlock ≠ some b → RdG K w' (some ⟨b, 0, none⟩) n c ys) → Kk (a.put o.dst (.slice A' N c')) w') :
    if Region.wanted o (yielded ops a.tmps) = true then Oper.wp Try.prog o a W Kk Q else E := by
  refine step_appNC K W1 hgd s x ho v l hs A m c xs hx h.own h.new h.bel hr hbytes ?_
  intro v' w' h1 h2 h3 h4
  obtain ⟨A', c', rfl, _⟩ := h1.form hN
  exact kk A' c' w' ⟨h1, h2, h3⟩ h4
theorem lit_ne {h b m c : Nat} (e : h ≠ b) : (Value.slice (some ⟨h, 0, none⟩) m c).ownBlock ≠ some b := fun e' => by simp [Value.ownBlock] at e'; exact e e'
theorem New.app {W1 : World} (hn : New W1 vK) (hB : Below W1.heap.size W1 w) (hat : v'.ownBlock = vK.ownBlock ∨ v'.ownBlock = some w.heap.size) : New W1 v' := fun q hq => by
  rcases hat with e | e
  · exact hn q (e.symm.trans hq)
  · rw [e] at hq; injection hq with hq; have := hB.size; omega
end
end Go.Proofs.Ytgkokglngpbamaa

/- make of rows. Conditions: none beyond those typed. -/
namespace Go.Proofs.Ytgkokglngpbamaa
open Go.ChangeShapes Go.WideShapes Go.ChangeAt Go.RowKit
set_option linter.unusedVariables false
set_option linter.unusedSimpArgs false
set_option maxRecDepth 100000

/-- make of a row of zeros. -/
theorem make_any {α : Type} (K : Kind α) {n : Nat} (hn : n ≤ 1000000) {z : α} (hz : K.enc z = K.zero.cells.toList) :
    ∃ CS : Array Value, (∀ W : World, (Instr.makeSlice K.sl (.int .i64 (n : Int)) (.int .i64 (n : Int))).run Try.prog W = .ok (.slice (some ⟨W.heap.size, 0, none⟩) n n) (W.alloc (.cells CS K.ty))) ∧ ∀ W : World, OwnK K (W.alloc (.cells CS K.ty)) (.slice (some ⟨W.heap.size, 0, none⟩) n n) (List.replicate n z) := by
  obtain ⟨i0, hi0, hz0, hz1, hz2⟩ := info_parts K.info
  have hsm : K.by_ * n ≤ 100000 * 1000000 := Nat.mul_le_mul K.small hn
  refine ⟨madeCells K.zero.cells (n * K.k), fun W => ?_, fun W => ?_⟩
  · have hb : (i0.bytes : Int) * (n : Int) ≤ 281474976710656 := by
      have h : ((i0.bytes * n : Nat) : Int) ≤ 281474976710656 := by rw [hz2]; omega
      rwa [Int.natCast_mul] at h
    have := run_make (P := Try.prog) W K.sl K.ty i0 K.zero K.under hi0 hz0 .i64 .i64 n n (by omega) (Int.le_refl _) hb (by omega)
    simpa only [Int.toNat_natCast, hz1] using this
  · exact OwnK.made (World.ownsRow_lit W _ n (Nat.zero_le _) (by simp only [maxLen]; omega) (size_madeCells _ _)) hz
/-- make of an empty row with room. -/
theorem make0_any {α : Type} (K : Kind α) {n : Nat} (hn : n ≤ 1000000) :
    ∃ CS : Array Value, (∀ W : World, (Instr.makeSlice K.sl (.int .i64 0) (.int .i64 (n : Int))).run Try.prog W = .ok (.slice (some ⟨W.heap.size, 0, none⟩) 0 n) (W.alloc (.cells CS K.ty))) ∧ ∀ W : World, OwnK K (W.alloc (.cells CS K.ty)) (.slice (some ⟨W.heap.size, 0, none⟩) 0 n) [] := by
  obtain ⟨i0, hi0, hz0, hz1, hz2⟩ := info_parts K.info
  have hsm : K.by_ * n ≤ 100000 * 1000000 := Nat.mul_le_mul K.small hn
  refine ⟨madeCells K.zero.cells (n * K.k), fun W => ?_, fun W => ?_⟩
  · have hb : (i0.bytes : Int) * (n : Int) ≤ 281474976710656 := by
      have h : ((i0.bytes * n : Nat) : Int) ≤ 281474976710656 := by rw [hz2]; omega
      rwa [Int.natCast_mul] at h
    have := run_make (P := Try.prog) W K.sl K.ty i0 K.zero K.under hi0 hz0 .i64 .i64 0 n (by omega) (by omega) hb (by omega)
    simpa only [Int.toNat_natCast, Int.toNat_zero, hz1] using this
  · exact World.ownsRow_made W _ n (Nat.zero_le _) (by simp only [maxLen]; omega) (size_madeCells _ _)
theorem OwnK.one {α : Type} {K : Kind α} {w : World} {h : Nat} (e : h = w.heap.size) (a : α) {cs : Array Value} (hc : cs.toList = K.enc a) : OwnK K (w.alloc (.cells cs K.ty)) (.slice (some ⟨h, 0, none⟩) 1 1) [a] := by
  subst e
  have hl : cs.size = K.k := by rw [← Array.length_toList, hc, K.len]
  have he : cellsK K [a] = cs.toList := by rw [hc]; simp [cellsK]
  exact ⟨by rw [he, Array.length_toList, hl]; simp, .inr ⟨_, 1, cs, rfl, Nat.zero_le _, heap_alloc_new w _, Nat.le_refl _, by simp [maxLen], by rw [hl, Nat.one_mul], by
    rw [he, List.take_of_length_le]
    rw [Array.length_toList, hl]
    simp⟩⟩
end Go.Proofs.Ytgkokglngpbamaa

/- Entries in memory; the specified table in memory: the box, place, Exact, Untracked, Total, New. Conditions: none beyond those typed. -/
namespace Go.Proofs.Ytgkokglngpbamaa
open Go.ChangeShapes Go.WideShapes Go.ChangeAt Go.RowKit
set_option linter.unusedVariables false
set_option linter.unusedSimpArgs false
set_option maxRecDepth 100000

def enE (e : En) : List Value := [.string e.1, .int .u64 e.2.1, .int .u64 e.2.2]
/-- Entries. -/
def kEn : Kind En where
  ty := 32
  sl := 40
  k := 3
  by_ := 32
  zero := .agg #[.string ⟨#[]⟩, .int .u64 0, .int .u64 0]
  enc := enE
  pos := by omega
  len := fun _ => rfl
  one := fun a u hu => by simp [enE] at hu; rcases hu with rfl | rfl | rfl <;> rfl
  under := Try.underlying40
  info := by kernel_rfl
  zk := rfl
  small := by omega
/-- An entry as the cells of a box. -/
abbrev VE (e : En) : Array Value := #[.string e.1, .int .u64 e.2.1, .int .u64 e.2.2]
theorem RdG.atEn {w : World} {A : Option Addr} {n c j : Nat} {l : List En} (h : RdG kEn w A n c l) (hj : j < n) :
    ∃ b o e, A = some ⟨b, o, none⟩ ∧ l[j]? = some e ∧ w.cell? ⟨b, o + j * 3, none⟩ = some (.string e.1) ∧ w.cell? ⟨b, o + j * 3 + 1, none⟩ = some (.int .u64 e.2.1) ∧ w.cell? ⟨b, o + j * 3 + 2, none⟩ = some (.int .u64 e.2.2) := by
  obtain ⟨b, o, e, hA, hl, _, _, hc⟩ := h.at_ hj
  exact ⟨b, o, e, hA, hl, hc 0 _ rfl, hc 1 _ rfl, hc 2 _ rfl⟩
def placeI (l : List En) (k : ByteArray) : Int := match placeE l k with | none => -1 | some i => (i : Int)
theorem str_eq_en {a b : ByteArray} : (a.toList == b.toList) = decide (a = b) := str_beq a b
theorem placeE_at {l : List En} {k : ByteArray} {i : Nat} {e : En} (hi : l[i]? = some e) (he : e.1 = k) (hno : ∀ (j : Nat) (x : En), j < i → l[j]? = some x → x.1 ≠ k) : placeE l k = some i := by
  unfold placeE
  obtain ⟨hil, hie⟩ := List.getElem?_eq_some_iff.1 hi
  refine List.findIdx?_eq_some_iff_getElem.2 ⟨hil, by rw [hie]; exact decide_eq_true he, fun j hj => ?_⟩
  have := hno j _ hj (List.getElem?_eq_getElem (by omega))
  simpa using this
theorem placeE_gone {l : List En} {k : ByteArray} (hno : ∀ (j : Nat) (x : En), l[j]? = some x → x.1 ≠ k) : placeE l k = none := by
  unfold placeE
  refine List.findIdx?_eq_none_iff.2 fun x hx => ?_
  obtain ⟨j, hj⟩ := List.mem_iff_getElem?.1 hx
  exact decide_eq_false (hno j x hj)
set_option maxHeartbeats 1000000 in
theorem place_any {w : World} {A : Option Addr} {n c : Nat} {l : List En} (h : RdG kEn w A n c l) (hn : n ≤ 1000000) (k : ByteArray) :
    Calls Try.prog 45 #[.slice A n c, .string k] w fun e w' => e = .returned (.int .i64 (placeI l k)) ∧ Below w.heap.size w w' := by
  have hcap := h.cap
  have hmax := h.max
  have hl := h.len
  obtain ⟨r, hr⟩ : ∃ r, placeI l k = r := ⟨_, rfl⟩
  rw [hr]
  go_enter Try.func45, Try.ntmps45
  go_wp2
  go_loopw [9] (fun iv wr => ∃ i : Nat, i ≤ n ∧ iv = .int .i64 (i : Int) ∧ (∀ (j : Nat) (x : En), j < i → l[j]? = some x → x.1 ≠ k) ∧ Below w.heap.size w wr) (fun iv _ => n - (intOf iv).toNat)
  case atStart => exact ⟨0, Nat.zero_le _, rfl, fun j x hj => absurd hj (Nat.not_lt_zero _), Below.refl _ _⟩
  case round =>
    obtain ⟨i, hi, rfl, hno, hB⟩ := hrel
    by_cases hlt : i < n
    · obtain ⟨b, o, e, rfl, he, c0, c1, c2⟩ := (h.below hB).atEn hlt
      have hiI : (i : Int) < (n : Int) := by omega
      have hB2 := Lib.hid (hB.alloc hB.size (.cells (VE e) 32))
      have v0 : (wr.alloc (.cells (VE e) 32)).cell? ⟨wr.heap.size, 0, none⟩ = some (.string e.1) := (World.cell?_alloc_at (w := wr) _ _ _ _ rfl).trans rfl
      by_cases hk : e.1 = k
      · have hb : (e.1.toList == k.toList) = true := by rw [str_eq_en]; exact decide_eq_true hk
        have hR := Lib.hid (show r = (i : Int) by rw [← hr]; unfold placeI; rw [placeE_at he hk hno])
        clear hno hB h hr hk he
        go_wp2
        go_ret
        rw [hR.out]
        exact ⟨rfl, hB2.out⟩
      · have hb : (e.1.toList == k.toList) = false := by rw [str_eq_en]; exact decide_eq_false hk
        have hN := Lib.hid (show ∀ (j : Nat) (x : En), j < i + 1 → l[j]? = some x → x.1 ≠ k from fun j x hj hx => by
          rcases Nat.lt_or_ge j i with h1 | h1
          · exact hno j x h1 hx
          · obtain rfl : j = i := by omega
            rw [he] at hx; injection hx with hx; subst hx; exact hk)
        clear hno hB h hr hk he
        go_wp2
        go_roundw
        case rel => exact ⟨i + 1, by omega, by go_num, hN.out, hB2.out⟩
        case measure => (simp [intOf] <;> omega)
    · have hiI : ¬ (i : Int) < (n : Int) := by omega
      have hR := Lib.hid (show r = -1 by
        rw [← hr]; unfold placeI
        rw [placeE_gone fun j x hx => hno j x (by have := (List.getElem?_eq_some_iff.1 hx).1; omega) hx])
      have hB2 := Lib.hid hB
      clear hno hB h hr
      go_wp2
      go_ret
      rw [hR.out]
      exact ⟨rfl, hB2.out⟩
theorem exact_any (a b c : Int) (ha : 0 ≤ a ∧ a ≤ 18446744073709551615) (hc : 0 ≤ c ∧ c ≤ 18446744073709551615) (w : World) :
    Calls Try.prog 48 #[.int .u64 a, .int .u64 b, .int .u64 c] w fun e w' => e = .returned (.bool (decide (a ≤ c ∧ b ≤ c - a))) ∧ w = w' := by
  by_cases h1 : a ≤ c
  · have hw : IntKind.u64.wrap (c - a) = c - a := IntWalk.u64_in _ ⟨by omega, by omega⟩
    by_cases h2 : b ≤ c - a
    · rw [decide_eq_true (⟨h1, h2⟩ : a ≤ c ∧ b ≤ c - a)]
      go_enter Try.func48, Try.ntmps48
      go_wp2
      go_ret
      exact ⟨rfl, rfl⟩
    · rw [decide_eq_false (fun h : a ≤ c ∧ b ≤ c - a => h2 h.2)]
      go_enter Try.func48, Try.ntmps48
      go_wp2
      go_ret
      exact ⟨rfl, rfl⟩
  · rw [decide_eq_false (fun h : a ≤ c ∧ b ≤ c - a => h1 h.1)]
    go_enter Try.func48, Try.ntmps48
    go_wp2
    go_ret
    exact ⟨rfl, rfl⟩
/-- The specified table (mode Saving): the box, the row of entries. -/
structure RefTB (col : Col) (k : Nat) (w : World) (g : Nat) (t : TSt) (A : Option Addr) (c : Nat) : Prop where
  box : BoxC col w g k #[.int .i64 1, .int .i64 t.m, .slice A t.l.length c, .int .u64 t.base, .int .u64 t.sum] 52
  row : OwnKc kEn col w (k + 1) (.slice A t.l.length c) t.l
  k1 : 1 ≤ k
def RefT (col : Col) (k : Nat) (w : World) (g : Nat) (t : TSt) : Prop := GoodT t ∧ ∃ A c, RefTB col k w g t A c
def DidRT (col : Col) (k : Nat) (w : World) (g : Nat) (t : TSt) (w' : World) : Prop := ∃ col', RefT col' k w' g t ∧ StepC (Rng k) col w col' w'
section
variable {P : Nat → Prop} {col col' : Col} {w w' : World} {k g : Nat} {t : TSt} {A : Option Addr} {c : Nat}
theorem RefTB.keep (h : RefTB col k w g t A c) (hs : StepC P col w col' w') (hp : ∀ c, Rng k c → ¬ P c) : RefTB col' k w' g t A c :=
  ⟨h.box.keep hs (hp _ ⟨Nat.le_refl _, by omega⟩), h.row.keep hs (hp _ ⟨by omega, by omega⟩), h.k1⟩
theorem RefTB.below (h : RefTB col k w g t A c) (ht : Tidy col w) (hb : Below w.heap.size w w') : RefTB col k w' g t A c := h.keep (P := fun _ => False) (StepC.below ht hb) (fun _ _ h => h)
theorem RefT.keep (h : RefT col k w g t) (hs : StepC P col w col' w') (hp : ∀ c, Rng k c → ¬ P c) : RefT col' k w' g t := by
  obtain ⟨G, A, c, H⟩ := h
  exact ⟨G, A, c, H.keep hs hp⟩
theorem RefT.below (h : RefT col k w g t) (ht : Tidy col w) (hb : Below w.heap.size w w') : RefT col k w' g t := h.keep (P := fun _ => False) (StepC.below ht hb) (fun _ _ h => h)
theorem rtUntr (H : RefT col k w g t) : Calls Try.prog 29 #[.pointer (some ⟨g, 0, none⟩)] w fun e w' => e = .returned (.int .u64 t.base) ∧ w = w' := by
  obtain ⟨G, A, c, H⟩ := H
  have x3 : w.cell? ⟨g, 3, none⟩ = some (.int .u64 t.base) := H.box.cell 3 rfl
  clear H G
  go_enter Try.func29, Try.ntmps29
  go_wp2
  go_ret
  exact ⟨rfl, rfl⟩
theorem rtTotal (H : RefT col k w g t) : Calls Try.prog 30 #[.pointer (some ⟨g, 0, none⟩)] w fun e w' => e = .returned (.int .u64 t.sum) ∧ w = w' := by
  obtain ⟨G, A, c, H⟩ := H
  have x4 : w.cell? ⟨g, 4, none⟩ = some (.int .u64 t.sum) := H.box.cell 4 rfl
  clear H G
  go_enter Try.func30, Try.ntmps30
  go_wp2
  go_ret
  exact ⟨rfl, rfl⟩
end
end Go.Proofs.Ytgkokglngpbamaa

/- New blocks get a colour; stores into new blocks. Conditions: none beyond those typed. -/
namespace Go.Proofs.Ytgkokglngpbamaa
open Go.ChangeShapes Go.WideShapes Go.ChangeAt Go.RowKit
set_option linter.unusedVariables false
set_option linter.unusedSimpArgs false

section
variable {col col' : Col} {w w' : World}
/-- A new block gets a colour. -/
theorem StepC.paint {P : Nat → Prop} {G d : Nat} (h : StepC P col w col' w') (h1 : w.heap.size ≤ G) (h2 : G < w'.heap.size) : StepC P col w (dye col' (some G) d) w' :=
  ⟨h.os, h.tape, h.output, h.size, fun b hb => by rw [dye_no (fun e => by injection e with e; omega)]; exact h.kept b hb, fun b hb => by rw [dye_no (fun e => by injection e with e; omega)]; exact h.tidy b hb, h.block⟩
theorem StepC.inNew {P : Nat → Prop} {a : Addr} (h : StepC P col w col' w') (h1 : w.heap.size ≤ a.block) (u : Value) : StepC P col w col' (w'.setCell a u) :=
  ⟨h.os, h.tape, h.output, by have := h.size; simpa [World.setCell] using this, h.kept, h.tidy.size (by simp [World.setCell]), fun b hb hp => (Below.heap_setCell _ _ _ _ (by omega)).trans (h.block b hb hp)⟩
end
end Go.Proofs.Ytgkokglngpbamaa
