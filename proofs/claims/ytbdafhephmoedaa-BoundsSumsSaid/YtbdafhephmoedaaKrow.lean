/- Words for rows of any elements: how an element lies in memory (Kind), a slice that reads as elements (RdG), a row of the call's own (OwnK), append onto one, stores into one. Conditions: none beyond those typed. -/
import Derived.Test.YtbdafhephmoedaaBase
import Derived.Maps.AppendAt
import Derived.OwnWalk
namespace Go.Proofs.Ytbdafhephmoedaa
open Go.ChangeShapes Go.WideShapes Go.ChangeAt Go.RowKit
set_option linter.unusedVariables false
set_option linter.unusedSimpArgs false
set_option maxRecDepth 100000

/-- How an element lies in memory: its type, the slice's type, its cells. -/
structure Kind (α : Type) where
  ty : TypeId
  sl : TypeId
  k : Nat
  by_ : Nat
  zero : Value
  enc : α → List Value
  pos : 0 < k
  len : ∀ a, (enc a).length = k
  one : ∀ a, ∀ u ∈ enc a, u.oneCell' = true
  under : Try.prog.underlying sl = some (.slice ty)
  info : (Try.prog.info? ty).map (fun i => (i.zero, i.size, i.bytes)) = some (some zero, k, by_)
  zk : zero.cells.size = k
  small : by_ ≤ 100000

section
variable {α : Type} {K : Kind α}
def cellsK (K : Kind α) (l : List α) : List Value := l.flatMap K.enc
theorem cellsK_cons (a : α) (l : List α) : cellsK K (a :: l) = K.enc a ++ cellsK K l := rfl
theorem cellsK_append (l m : List α) : cellsK K (l ++ m) = cellsK K l ++ cellsK K m := by simp [cellsK]
theorem cellsK_length : ∀ l : List α, (cellsK K l).length = l.length * K.k
  | [] => by simp [cellsK]
  | a :: l => by rw [cellsK_cons, List.length_append, K.len, cellsK_length l, List.length_cons, Nat.add_mul]; omega
theorem cellsK_mem {l : List α} {u : Value} (h : u ∈ cellsK K l) : u.oneCell' = true := by
  obtain ⟨a, _, h⟩ := List.mem_flatMap.1 h
  exact K.one a u h
theorem cellsK_at : ∀ {l : List α} {j : Nat} {a : α} {i : Nat}, l[j]? = some a → i < K.k → (cellsK K l)[j * K.k + i]? = (K.enc a)[i]?
  | [], j, a, i, h, _ => by simp at h
  | x :: l, 0, a, i, h, hi => by
    simp at h; subst h
    rw [cellsK_cons, Nat.zero_mul, Nat.zero_add, List.getElem?_append_left (by rw [K.len]; exact hi)]
  | x :: l, j + 1, a, i, h, hi => by
    rw [cellsK_cons, List.getElem?_append_right (by rw [K.len, Nat.add_mul]; omega), K.len, show (j + 1) * K.k + i - K.k = j * K.k + i by rw [Nat.add_mul]; omega]
    exact cellsK_at (by simpa using h) hi
theorem cellsK_get : ∀ {l : List α} {q : Nat} {u : Value}, (cellsK K l)[q]? = some u → ∃ j a i, l[j]? = some a ∧ q = j * K.k + i ∧ i < K.k ∧ (K.enc a)[i]? = some u
  | [], q, u, h => by simp [cellsK] at h
  | x :: l, q, u, h => by
    rw [cellsK_cons] at h
    rcases Nat.lt_or_ge q K.k with hq | hq
    · rw [List.getElem?_append_left (by rw [K.len]; exact hq)] at h
      exact ⟨0, x, q, rfl, by omega, hq, h⟩
    · rw [List.getElem?_append_right (by rw [K.len]; exact hq), K.len] at h
      obtain ⟨j, a, i, h1, h2, h3, h4⟩ := cellsK_get h
      exact ⟨j + 1, a, i, by simpa using h1, by rw [Nat.add_mul]; omega, h3, h4⟩
theorem cellsK_set {l : List α} {j : Nat} {a a' : α} {i : Nat} {u : Value} (h : l[j]? = some a) (hi : i < K.k) (he : K.enc a' = (K.enc a).set i u) :
    (cellsK K l).set (j * K.k + i) u = cellsK K (l.set j a') := by
  induction l generalizing j with
  | nil => simp at h
  | cons x l ih =>
    cases j with
    | zero =>
      simp at h; subst h
      rw [List.set_cons_zero, cellsK_cons, cellsK_cons, Nat.zero_mul, Nat.zero_add, List.set_append_left _ _ (by rw [K.len]; exact hi), he]
    | succ j =>
      rw [List.set_cons_succ, cellsK_cons, cellsK_cons, List.set_append_right _ _ (by rw [K.len, Nat.add_mul]; omega), K.len, show (j + 1) * K.k + i - K.k = j * K.k + i by rw [Nat.add_mul]; omega, ih (by simpa using h)]

/-- The slice value '.slice A n c' reads as these elements. -/
def RdG (K : Kind α) (w : World) (A : Option Addr) (n c : Nat) (l : List α) : Prop :=
  l.length = n ∧ n ≤ c ∧ c ≤ maxLen ∧ ∀ j a, l[j]? = some a → ∃ b o, A = some ⟨b, o, none⟩ ∧ ∀ i u, (K.enc a)[i]? = some u → w.cell? ⟨b, o + j * K.k + i, none⟩ = some u
/-- v is a row of its own block, which holds l. -/
def OwnK (K : Kind α) (w : World) (v : Value) (l : List α) : Prop := w.ownsRow 0 K.ty K.k v l.length (cellsK K l)

variable {w w' : World} {A : Option Addr} {n c g : Nat} {l : List α} {v : Value}
theorem RdG.len (h : RdG K w A n c l) : l.length = n := h.1
theorem RdG.cap (h : RdG K w A n c l) : n ≤ c := h.2.1
theorem RdG.max (h : RdG K w A n c l) : c ≤ 9223372036854775807 := h.2.2.1
theorem RdG.at_ (h : RdG K w A n c l) {j : Nat} (hj : j < n) :
    ∃ b o a, A = some ⟨b, o, none⟩ ∧ l[j]? = some a ∧ a ∈ l ∧ b < w.heap.size ∧ ∀ i u, (K.enc a)[i]? = some u → w.cell? ⟨b, o + j * K.k + i, none⟩ = some u := by
  have hl : j < l.length := by rw [h.1]; exact hj
  have hg : l[j]? = some l[j] := List.getElem?_eq_getElem hl
  obtain ⟨b, o, hA, hc⟩ := h.2.2.2 j _ hg
  have hl0 : 0 < (K.enc l[j]).length := by rw [K.len]; exact K.pos
  have hu := List.getElem?_eq_getElem hl0
  exact ⟨b, o, l[j], hA, hg, List.getElem_mem hl, World.block_lt_of_cell? w _ (hc 0 _ hu), hc⟩
theorem RdG.far (h : RdG K w A n c l) (hb : ∀ b o, A = some ⟨b, o, none⟩ → b < w.heap.size → w'.heap[b]? = w.heap[b]?) : RdG K w' A n c l := by
  refine ⟨h.1, h.2.1, h.2.2.1, fun j a ha => ?_⟩
  obtain ⟨b, o, hA, hc⟩ := h.2.2.2 j a ha
  exact ⟨b, o, hA, fun i u hu => (World.cell?_of_block (w := w) (hb b o hA (World.block_lt_of_cell? w _ (hc i u hu)))).trans (hc i u hu)⟩
theorem RdG.below (h : RdG K w A n c l) (hb : Below w.heap.size w w') : RdG K w' A n c l := h.far fun b o _ hl => hb.block b hl
theorem RdG.drewN (h : RdG K w A n c l) (q : Nat) : RdG K (w.drewN q) A n c l := h
theorem RdG.nil (w : World) (A : Option Addr) (c : Nat) (hc : c ≤ maxLen) : RdG K w A 0 c [] := ⟨rfl, Nat.zero_le _, hc, fun j a h => by simp at h⟩
/-- b[i:j]. -/
theorem RdG.sub {b o : Nat} (h : RdG K w (some ⟨b, o, none⟩) n c l) {i j : Nat} (hij : i ≤ j) (hj : j ≤ n) : RdG K w (some ⟨b, o + i * K.k, none⟩) (j - i) (c - i) ((l.take j).drop i) := by
  refine ⟨by rw [List.length_drop, List.length_take, h.1]; omega, by have := h.cap; omega, by have := h.2.2.1; omega, fun q a ha => ?_⟩
  rw [List.getElem?_drop, List.getElem?_take] at ha
  split at ha
  · obtain ⟨b', o', hA, hc⟩ := h.2.2.2 _ a ha
    injection hA with hA; injection hA with h1 h2; subst h1 h2
    refine ⟨b, _, rfl, fun x u hu => ?_⟩
    have := hc x u hu
    rw [show o + i * K.k + q * K.k + x = o + (i + q) * K.k + x by rw [Nat.add_mul]; omega]
    exact this
  · cases ha
/-- b[i:], as the model slices (at the end of the capacity the address stays). -/
theorem RdG.dropIf {b o : Nat} (h : RdG K w (some ⟨b, o, none⟩) n c l) {i : Nat} (hi : i ≤ n) : RdG K w (if c = i then some ⟨b, o, none⟩ else some ⟨b, o + i * K.k, none⟩) (n - i) (c - i) (l.drop i) := by
  by_cases hc : c = i
  · have hcap := h.cap
    have hl := h.len
    rw [if_pos hc, List.drop_eq_nil_of_le (by omega), show n - i = 0 by omega]
    exact RdG.nil _ _ _ (by have := h.max; simp only [maxLen]; omega)
  · rw [if_neg hc]
    have := h.sub hi (Nat.le_refl n)
    rwa [List.take_of_length_le (by rw [h.1]; exact Nat.le_refl _)] at this
theorem RdG.head (h : RdG K w A n c l) {j : Nat} (hj : j ≤ n) : RdG K w A j c (l.take j) := by
  refine ⟨by rw [List.length_take, h.1]; omega, by have := h.cap; omega, h.2.2.1, fun q a ha => ?_⟩
  rw [List.getElem?_take] at ha
  split at ha
  · exact h.2.2.2 _ a ha
  · cases ha

theorem OwnK.nil (K : Kind α) (w : World) : OwnK K w (.slice none 0 0) [] := World.ownsRow_nil w 0 K.ty K.k
theorem OwnK.alloc (h : OwnK K w v l) (o : Obj) : OwnK K (w.alloc o) v l := World.ownsRow.alloc h o
theorem OwnK.drewN (h : OwnK K w v l) (q : Nat) : OwnK K (w.drewN q) v l := h
theorem OwnK.lt (h : OwnK K w v l) : ∀ q, v.ownBlock = some q → q < w.heap.size := fun q hq => (World.ownsRow.lt h q hq).2
theorem OwnK.far (h : OwnK K w v l) (hb : ∀ q, v.ownBlock = some q → w'.heap[q]? = w.heap[q]?) : OwnK K w' v l := by
  refine ⟨h.1, ?_⟩
  rcases h.2 with h2 | ⟨g, cap, cur, rfl, hz, hg, hr⟩
  · exact .inl h2
  · exact .inr ⟨g, cap, cur, rfl, hz, (hb g rfl).trans hg, hr⟩
theorem OwnK.below (h : OwnK K w v l) (hb : Below w.heap.size w w') : OwnK K w' v l := h.far fun q hq => hb.block q (h.lt q hq)
theorem OwnK.grown {row : Option Nat} (h : OwnK K w v l) (hg : w.grownBy w' row) (hr : ∀ q, v.ownBlock = some q → row ≠ some q) : OwnK K w' v l := h.far fun q hq => hg.block q (h.lt q hq) fun e => hr q hq e.symm
theorem OwnK.len {A : Option Addr} (h : OwnK K w (.slice A n c) l) : l.length = n := by
  rcases h.2 with ⟨h, hn⟩ | ⟨g, cap, cur, h, _⟩
  · injection h with _ h2 _; omega
  · injection h with _ h2 _; omega
/-- What is owned reads as its elements. -/
theorem OwnK.form (h : OwnK K w v l) (hn : l.length = n) : ∃ A c, v = .slice A n c ∧ RdG K w A n c l ∧ (A = none ∧ l = [] ∧ c = 0 ∨ ∃ g, A = some ⟨g, 0, none⟩ ∧ g < w.heap.size) := by
  subst hn
  rcases h.2 with ⟨rfl, hn⟩ | ⟨g, cap, cur, rfl, hbg, hg, hnc, hcm, hcs, htake⟩
  · have hl : l = [] := List.eq_nil_of_length_eq_zero hn
    subst hl
    exact ⟨none, 0, rfl, RdG.nil _ _ _ (Nat.zero_le _), .inl ⟨rfl, rfl, rfl⟩⟩
  · refine ⟨_, cap, rfl, ⟨rfl, hnc, hcm, fun j a ha => ⟨g, 0, rfl, fun i u hu => ?_⟩⟩, .inr ⟨g, rfl, (Array.getElem?_eq_some_iff.1 hg).1⟩⟩
    have hi : i < K.k := by rw [← K.len a]; exact (List.getElem?_eq_some_iff.1 hu).1
    have := World.ownsRow.cells h (g := g) rfl (j * K.k + i) u (by rw [cellsK_at ha hi]; exact hu)
    rw [Addr.add_lit, ← Nat.add_assoc] at this
    exact this
theorem OwnK.reads {A : Option Addr} (h : OwnK K w (.slice A n c) l) : RdG K w A n c l := by
  obtain ⟨A', c', e, hr, _⟩ := h.form h.len
  injection e with e1 e2 e3
  subst e1 e3
  exact hr
theorem OwnK.head {A : Option Addr} (h : OwnK K w (.slice A n c) l) (hn : 0 < n) : ∃ g, A = some ⟨g, 0, none⟩ ∧ g < w.heap.size := by
  obtain ⟨A', c', e, hr, hh⟩ := h.form h.len
  injection e with e1 e2 e3
  subst e1
  rcases hh with ⟨_, h2, _⟩ | h2
  · subst h2; have := h.len; simp at this; omega
  · exact h2
theorem OwnK.cell (h : OwnK K w (.slice (some ⟨g, 0, none⟩) n c) l) {j i : Nat} {a : α} {u : Value} (ha : l[j]? = some a) (hu : (K.enc a)[i]? = some u) : w.cell? ⟨g, j * K.k + i, none⟩ = some u := by
  obtain ⟨b, o, e, hc⟩ := h.reads.2.2.2 j a ha
  injection e with e; injection e with e1 e2; subst e1 e2
  simpa using hc i u hu
theorem OwnK.free (h : OwnK K w (.slice (some ⟨g, 0, none⟩) n c) l) (q : Nat) : w.frozen? ⟨g, q, none⟩ = false := by
  obtain rfl := h.len
  exact World.ownsRow.frozenAt h q
/-- A store of one cell of an element. -/
theorem OwnK.store (h : OwnK K w (.slice (some ⟨g, 0, none⟩) n c) l) {j i : Nat} {a a' : α} {u : Value} (ha : l[j]? = some a) (hi : i < K.k) (he : K.enc a' = (K.enc a).set i u) :
    OwnK K (w.setCell ⟨g, j * K.k + i, none⟩ u) (.slice (some ⟨g, 0, none⟩) n c) (l.set j a') := by
  obtain rfl := h.len
  show World.ownsRow _ 0 K.ty K.k _ _ _
  rw [List.length_set, ← cellsK_set ha hi he]
  exact (World.ownsRow.stored h (j * K.k + i) u).1
theorem OwnK.made (h : w.ownsRow 0 K.ty K.k (.slice (some ⟨g, 0, none⟩) n n) n (madeCells K.zero.cells (n * K.k)).toList) {a : α} (ha : K.enc a = K.zero.cells.toList) : OwnK K w (.slice (some ⟨g, 0, none⟩) n n) (List.replicate n a) := by
  have hc : (madeCells K.zero.cells (n * K.k)).toList = cellsK K (List.replicate n a) := by
    apply List.ext_getElem?
    intro q
    rcases Nat.lt_or_ge q (n * K.k) with hq | hq
    · have hk := K.pos
      have e1 : q = q / K.k * K.k + q % K.k := by rw [Nat.mul_comm]; exact (Nat.div_add_mod q K.k).symm
      have e2 : q / K.k < n := Nat.div_lt_of_lt_mul (by rw [Nat.mul_comm]; exact hq)
      have e3 : (cellsK K (List.replicate n a))[q]? = (K.enc a)[q % K.k]? := by
        conv => lhs; rw [e1]
        exact cellsK_at (by rw [List.getElem?_replicate, if_pos e2]) (Nat.mod_lt _ hk)
      rw [e3, ha]
      have hz := K.zk
      simp [madeCells, hq, hz]
      rw [Array.getElem?_eq_getElem (by rw [hz]; exact Nat.mod_lt _ hk)]
      simp [Nat.mod_lt _ hk, hz]
    · rw [List.getElem?_eq_none (by simp [madeCells]; exact hq), List.getElem?_eq_none (by rw [cellsK_length, List.length_replicate]; exact hq)]
  show World.ownsRow _ 0 K.ty K.k _ _ _
  rw [List.length_replicate, ← hc]
  exact h
end

section
variable {α : Type} {K : Kind α} {w : World}
/-- append of elements that are read onto an owned row: the run. -/
theorem run_appK (ty : TypeId) (v : Value) (l : List α) (hown : OwnK K w v l) (A : Option Addr) (m c : Nat) (xs : List α) (hr : RdG K w A m c xs) (hbytes : l.length + m ≤ 1000000000) :
    ∃ v' w', (Builtin.append_ #[K.sl, K.sl] ty #[v, .slice A m c]).run Try.prog w = .ok v' w' ∧ OwnK K w' v' (l ++ xs) ∧ w.grownBy w' v.ownBlock ∧ (v'.ownBlock = v.ownBlock ∨ v'.ownBlock = some w.heap.size) := by
  obtain ⟨i0, hi0, hz0, hz1, hz2⟩ := info_parts K.info
  have hlen := hr.1
  cases A with
  | none =>
    have hx : xs = [] := by
      cases xs with
      | nil => rfl
      | cons z q =>
        obtain ⟨b, o, h, _⟩ := hr.2.2.2 0 z (by simp)
        cases h
    subst hx
    simp at hlen
    subst hlen
    refine ⟨v, w, ?_, by simpa using hown, World.grownBy.refl _ _, .inl rfl⟩
    rcases hown.2 with ⟨rfl, _⟩ | ⟨g, cap, cur, rfl, _, _, hnc, _⟩
    · simp [Builtin.append_, run_underlying K.under, sizeOf, typeInfo, hi0, Builtin.lenOf, Builtin.firstCells]
    · simp [Builtin.append_, run_underlying K.under, sizeOf, typeInfo, hi0, Builtin.lenOf, Builtin.firstCells, hnc, storeCells]
  | some ad =>
    have hcells : ∀ j u, (cellsK K xs)[j]? = some u → w.cell? (ad.add j) = some u := by
      intro j u hu
      obtain ⟨q, a, i, h1, rfl, h3, h4⟩ := cellsK_get hu
      obtain ⟨b, o, h, hc⟩ := hr.2.2.2 q a h1
      obtain rfl := Option.some.inj h
      rw [Addr.add_lit, ← Nat.add_assoc]
      exact hc i u h4
    have hsm : (l.length + m) * K.by_ ≤ 1000000000 * 100000 := Nat.mul_le_mul hbytes K.small
    obtain ⟨v', w', hrun, h2, h3, _, h5⟩ := run_append_own_at (P := Try.prog) w 0 K.sl ty K.ty i0 K.zero K.k K.by_ K.under hi0 hz0 hz1 hz2 K.zk K.pos v _ _ hown ad m c (cellsK K xs)
      (by rw [cellsK_length, hlen]) hcells (fun u hu => cellsK_mem hu) (by simp only [maxLen]; omega) (by omega) (Nat.zero_le _)
    refine ⟨v', w', hrun, ?_, h3, h5⟩
    unfold OwnK
    rw [cellsK_append, List.length_append, hlen]
    exact h2
theorem wpList_appK (K : Kind α) {ops : Array Oper} {rest : List Oper} {o : Oper} {a : Act} {Q : Exit → Act → World → Prop} (hgd : o.guard = none) (s x : Operand)
    (ho : o.op = .call { callee := .builtin .append, args := #[s, x], argTypes := #[K.sl, K.sl] })
    (v : Value) (l : List α) (hs : a.eval s = v) (A : Option Addr) (m c : Nat) (xs : List α) (hx : a.eval x = .slice A m c)
    (hown : OwnK K w v l) (hr : RdG K w A m c xs) (hbytes : l.length + m ≤ 1000000000)
    (h : ∀ v' w', OwnK K w' v' (l ++ xs) → w.grownBy w' v.ownBlock → (v'.ownBlock = v.ownBlock ∨ v'.ownBlock = some w.heap.size) → wpList Try.prog ops Q rest (a.put o.dst v') w') :
    wpList Try.prog ops Q (o :: rest) a w :=
  wpList_plain hgd fun Kk hK => by
    obtain ⟨v', w', hr, h2, h3, h4⟩ := run_appK o.type v l hown A m c xs hr hbytes
    unfold Oper.wp execOp
    simp only [ho, resolve, invoke, builtin, Sem.run_bind, Sem.run_pure, Result.andThen_ok, List.map_toArray, List.map_cons, List.map_nil, hs, hx, hr]
    exact hK _ _ (h v' w' h2 h3 h4)
theorem step_appG (K : Kind α) {ops : Array Oper} {o : Oper} {a : Act} {Kk : Act → World → Prop} {Q : Exit → Act → World → Prop} {E : Prop} (hgd : o.guard = none) (s x : Operand)
    (ho : o.op = .call { callee := .builtin .append, args := #[s, x], argTypes := #[K.sl, K.sl] })
    (v : Value) (l : List α) (hs : a.eval s = v) (A : Option Addr) (m c : Nat) (xs : List α) (hx : a.eval x = .slice A m c)
    (hown : OwnK K w v l) (hr : RdG K w A m c xs) (hbytes : l.length + m ≤ 1000000000)
    (h : ∀ v' w', OwnK K w' v' (l ++ xs) → w.grownBy w' v.ownBlock → (v'.ownBlock = v.ownBlock ∨ v'.ownBlock = some w.heap.size) → Kk (a.put o.dst v') w') :
    if Region.wanted o (yielded ops a.tmps) = true then Oper.wp Try.prog o a w Kk Q else E := by
  have hw : Region.wanted o (yielded ops a.tmps) = true := by simp [Region.wanted, hgd]
  rw [if_pos hw]
  obtain ⟨v', w', hr, h2, h3, h4⟩ := run_appK o.type v l hown A m c xs hr hbytes
  unfold Oper.wp execOp
  simp only [ho, resolve, invoke, builtin, Sem.run_bind, Sem.run_pure, Result.andThen_ok, List.map_toArray, List.map_cons, List.map_nil, hs, hx, hr]
  exact h v' w' h2 h3 h4
/-- What lies in new memory. -/
def New (W : World) (v : Value) : Prop := ∀ q, v.ownBlock = some q → W.heap.size ≤ q
/-- append onto a row in new memory: nothing elder turns. -/
theorem step_appN (K : Kind α) (W1 : World) {ops : Array Oper} {o : Oper} {a : Act} {Kk : Act → World → Prop} {Q : Exit → Act → World → Prop} {E : Prop} (hgd : o.guard = none) (s x : Operand)
    (ho : o.op = .call { callee := .builtin .append, args := #[s, x], argTypes := #[K.sl, K.sl] })
    (v : Value) (l : List α) (hs : a.eval s = v) (A : Option Addr) (m c : Nat) (xs : List α) (hx : a.eval x = .slice A m c)
    (hown : OwnK K w v l) (hn : New W1 v) (hB : Below W1.heap.size W1 w) (hr : RdG K w A m c xs) (hbytes : l.length + m ≤ 1000000000)
    (h : ∀ v' w', OwnK K w' v' (l ++ xs) → New W1 v' → Below W1.heap.size W1 w' → Kk (a.put o.dst v') w') :
    if Region.wanted o (yielded ops a.tmps) = true then Oper.wp Try.prog o a w Kk Q else E :=
  step_appG K hgd s x ho v l hs A m c xs hx hown hr hbytes fun v' w' hO hg hat => h v' w' hO (fun q hq => by
    rcases hat with e | e
    · exact hn q (e.symm.trans hq)
    · rw [e] at hq; injection hq with hq; have := hB.size; omega) (hB.grown hg hB.size fun q hq => hn q hq)
theorem New.lit {W1 : World} {h m c : Nat} (e : W1.heap.size ≤ h) : New W1 (.slice (some ⟨h, 0, none⟩) m c) := fun q hq => by simp [Value.ownBlock] at hq; omega
/-- An empty literal, a literal of one. -/
theorem OwnK.empty (K : Kind α) {h : Nat} (e : h = w.heap.size) : OwnK K (w.alloc (.cells #[] K.ty)) (.slice (some ⟨h, 0, none⟩) 0 0) [] := by
  subst e; exact ⟨by simp [cellsK], .inr ⟨_, 0, #[], rfl, Nat.zero_le _, heap_alloc_new w _, Nat.le_refl _, Nat.zero_le _, by simp, by simp [cellsK]⟩⟩
theorem RdG.one' (K : Kind α) {h : Nat} (e : h = w.heap.size) (a : α) : RdG K (w.alloc (.cells (K.enc a).toArray K.ty)) (some ⟨h, 0, none⟩) 1 1 [a] := by
  subst e
  refine ⟨rfl, Nat.le_refl _, by simp [maxLen], fun j x hx => ?_⟩
  cases j with
  | zero =>
    simp at hx; subst hx
    refine ⟨_, _, rfl, fun i u hu => ?_⟩
    rw [World.cell?_alloc_at _ _ _ _ rfl]
    simpa using hu
  | succ j => simp at hx
end
end Go.Proofs.Ytbdafhephmoedaa
