/- Words laid together in one text. Conditions: none beyond those typed. -/
import Derived.Test.YtajkcjbkbihgjaaGreatZ01
import Derived.Maps.AppendAt
import Derived.OwnWalk
import Derived.Lib.Builder
import Derived.OrdersHeld
import Derived.Deep.RegionHeld
import Derived.Laws.OwnMore
import Derived.Deep.RegionLaw
/- The plain mathematics of tables (Misra-Gries): numbers of keys, what was deducted. Conditions: none beyond those typed. -/
namespace Go.Proofs.YtajkcjbkbihgjaaGreat
set_option linter.unusedVariables false
set_option linter.unusedSimpArgs false

def sumO : List En → Int
  | [] => 0
  | e :: l => e.2.1 + sumO l
structure GoodF (t : TSt) : Prop where
  m1 : 1 ≤ t.m ∧ t.m ≤ 64
  len : t.l.length ≤ t.m
  nd : (t.l.map Prod.fst).Nodup
  pos : ∀ e ∈ t.l, 0 < e.2.1 ∧ e.2.2 = 0 ∧ 0 < e.1.size
  base0 : 0 ≤ t.base
  most : ((t.m : Int) + 1) * t.base + sumO t.l ≤ t.sum
  top : t.sum ≤ 9223372036854775808
section
variable {l : List En} {k : ByteArray} {i j : Nat} {e : En} {t : TSt} {w d : Int}
theorem sumO_app (l l' : List En) : sumO (l ++ l') = sumO l + sumO l' := by
  induction l with
  | nil => simp [sumO]
  | cons x l ih => show x.2.1 + sumO (l ++ l') = x.2.1 + sumO l + sumO l'; rw [ih]; omega
theorem withoutO_at (h : l[i]? = some e) : sumO (withoutE l i) + e.2.1 = sumO l := by
  obtain ⟨hi, he⟩ := List.getElem?_eq_some_iff.1 h
  have hs : l = l.take i ++ e :: l.drop (i + 1) := by
    have := List.take_append_drop i l
    rw [List.drop_eq_getElem_cons hi, he] at this
    exact this.symm
  have h2 : sumO l = sumO (l.take i) + (e.2.1 + sumO (l.drop (i + 1))) := by
    conv => lhs; rw [hs]
    rw [sumO_app]; rfl
  unfold withoutE
  rw [sumO_app]; omega
theorem newF_good {m : Nat} (h : 1 ≤ m ∧ m ≤ 64) : GoodF (newT m) := ⟨h, Nat.zero_le _, List.nodup_nil, fun e he => by simp [newT] at he, Int.le_refl _, by simp [newT, sumO], by simp [newT]⟩
theorem GoodF.take (G : GoodF t) (k : ByteArray) : GoodF (t.take k) := by
  unfold TSt.take
  cases hp : placeE t.l k with
  | none => exact G
  | some i =>
    obtain ⟨e, hi, he, hil⟩ := placeE_some hp
    obtain ⟨a1, _, a3, a4, _⟩ := without_at hi
    have a2 := withoutO_at hi
    have hmost := G.most
    have hle := G.len
    have p1 := (G.pos e (List.mem_of_getElem? hi)).1
    exact ⟨G.m1, by show (withoutE t.l i).length ≤ t.m; omega, (a4 G.nd).1, fun x hx => G.pos x (a3 x hx), G.base0, by show ((t.m : Int) + 1) * t.base + sumO (withoutE t.l i) ≤ t.sum; omega, G.top⟩
end
end Go.Proofs.YtajkcjbkbihgjaaGreat

/- Tables of either mode as plain data: true is Space-Saving, false is Misra-Gries. Conditions: none beyond those typed. -/
namespace Go.Proofs.YtajkcjbkbihgjaaGreat
set_option linter.unusedVariables false
set_option linter.unusedSimpArgs false

def GdTb (sv : Bool) (t : TSt) : Prop := match sv with | true => GoodT t | false => GoodF t
def limE (mode m total : Int) : Int := if m < 1 ∨ 64 < m then total else if mode = 1 then total / m else if mode = 2 then total / (m + 1) else total
/-- The error of New. -/
def nwTb (mode m : Int) : Int := if mode ≠ 1 ∧ mode ≠ 2 then 11 else if m < 1 ∨ 64 < m then 1 else 0
section
variable {sv : Bool} {t : TSt} {k : ByteArray} {w : Int} {e : En} {i : Nat}
theorem GdTb.m1 (G : GdTb sv t) : 1 ≤ t.m ∧ t.m ≤ 64 := by cases sv <;> exact G.m1
theorem GdTb.len (G : GdTb sv t) : t.l.length ≤ t.m := by cases sv <;> exact G.len
theorem GdTb.nd (G : GdTb sv t) : (t.l.map Prod.fst).Nodup := by cases sv <;> exact G.nd
theorem GdTb.base0 (G : GdTb sv t) : 0 ≤ t.base := by cases sv <;> exact G.base0
theorem GdTb.top (G : GdTb sv t) : t.sum ≤ 9223372036854775808 := by cases sv <;> exact G.top
theorem GdTb.take (G : GdTb sv t) (k : ByteArray) : GdTb sv (t.take k) := match sv, G with
  | true, G => GoodT.take G k
  | false, G => GoodF.take G k
end
end Go.Proofs.YtajkcjbkbihgjaaGreat

/- Words for rows of any elements: how an element lies in memory (Kind), a slice that reads as elements (RdG), a row of the call's own (OwnK), append onto one, stores into one. Conditions: none beyond those typed. -/
namespace Go.Proofs.YtajkcjbkbihgjaaGreat
open Go.ChangeShapes Go.WideShapes Go.ChangeAt Go.RowKit
set_option linter.unusedVariables false
set_option linter.unusedSimpArgs false
set_option maxRecDepth 100000

/-- How an element lies in memory: its type, the slice's type, its cells. -/
structure Kind (α : Type) where
  ty : TypeId
  sl : TypeId
  k : Nat
  by_ : Nat
  zero : Value
  enc : α → List Value
  pos : 0 < k
  len : ∀ a, (enc a).length = k
  one : ∀ a, ∀ u ∈ enc a, u.oneCell' = true
  under : Tryz.prog.underlying sl = some (.slice ty)
  info : (Tryz.prog.info? ty).map (fun i => (i.zero, i.size, i.bytes)) = some (some zero, k, by_)
  zk : zero.cells.size = k
  small : by_ ≤ 100000

section
variable {α : Type} {K : Kind α}
def cellsK (K : Kind α) (l : List α) : List Value := l.flatMap K.enc
theorem cellsK_cons (a : α) (l : List α) : cellsK K (a :: l) = K.enc a ++ cellsK K l := rfl
theorem cellsK_append (l m : List α) : cellsK K (l ++ m) = cellsK K l ++ cellsK K m := by simp [cellsK]
theorem cellsK_length : ∀ l : List α, (cellsK K l).length = l.length * K.k
  | [] => by simp [cellsK]
  | a :: l => by rw [cellsK_cons, List.length_append, K.len, cellsK_length l, List.length_cons, Nat.add_mul]; omega
theorem cellsK_mem {l : List α} {u : Value} (h : u ∈ cellsK K l) : u.oneCell' = true := by
  obtain ⟨a, _, h⟩ := List.mem_flatMap.1 h
  exact K.one a u h
theorem cellsK_at : ∀ {l : List α} {j : Nat} {a : α} {i : Nat}, l[j]? = some a → i < K.k → (cellsK K l)[j * K.k + i]? = (K.enc a)[i]?
  | [], j, a, i, h, _ => by simp at h
  | x :: l, 0, a, i, h, hi => by
    simp at h; subst h
    rw [cellsK_cons, Nat.zero_mul, Nat.zero_add, List.getElem?_append_left (by rw [K.len]; exact hi)]
  | x :: l, j + 1, a, i, h, hi => by
    rw [cellsK_cons, List.getElem?_append_right (by rw [K.len, Nat.add_mul]; omega), K.len, show (j + 1) * K.k + i - K.k = j * K.k + i by rw [Nat.add_mul]; omega]
    exact cellsK_at (by simpa using h) hi
theorem cellsK_get : ∀ {l : List α} {q : Nat} {u : Value}, (cellsK K l)[q]? = some u → ∃ j a i, l[j]? = some a ∧ q = j * K.k + i ∧ i < K.k ∧ (K.enc a)[i]? = some u
  | [], q, u, h => by simp [cellsK] at h
  | x :: l, q, u, h => by
    rw [cellsK_cons] at h
    rcases Nat.lt_or_ge q K.k with hq | hq
    · rw [List.getElem?_append_left (by rw [K.len]; exact hq)] at h
      exact ⟨0, x, q, rfl, by omega, hq, h⟩
    · rw [List.getElem?_append_right (by rw [K.len]; exact hq), K.len] at h
      obtain ⟨j, a, i, h1, h2, h3, h4⟩ := cellsK_get h
      exact ⟨j + 1, a, i, by simpa using h1, by rw [Nat.add_mul]; omega, h3, h4⟩
theorem cellsK_set {l : List α} {j : Nat} {a a' : α} {i : Nat} {u : Value} (h : l[j]? = some a) (hi : i < K.k) (he : K.enc a' = (K.enc a).set i u) :
    (cellsK K l).set (j * K.k + i) u = cellsK K (l.set j a') := by
  induction l generalizing j with
  | nil => simp at h
  | cons x l ih =>
    cases j with
    | zero =>
      simp at h; subst h
      rw [List.set_cons_zero, cellsK_cons, cellsK_cons, Nat.zero_mul, Nat.zero_add, List.set_append_left _ _ (by rw [K.len]; exact hi), he]
    | succ j =>
      rw [List.set_cons_succ, cellsK_cons, cellsK_cons, List.set_append_right _ _ (by rw [K.len, Nat.add_mul]; omega), K.len, show (j + 1) * K.k + i - K.k = j * K.k + i by rw [Nat.add_mul]; omega, ih (by simpa using h)]

/-- The slice value '.slice A n c' reads as these elements. -/
def RdG (K : Kind α) (w : World) (A : Option Addr) (n c : Nat) (l : List α) : Prop :=
  l.length = n ∧ n ≤ c ∧ c ≤ maxLen ∧ ∀ j a, l[j]? = some a → ∃ b o, A = some ⟨b, o, none⟩ ∧ ∀ i u, (K.enc a)[i]? = some u → w.cell? ⟨b, o + j * K.k + i, none⟩ = some u
/-- v is a row of its own block, which holds l. -/
def OwnK (K : Kind α) (w : World) (v : Value) (l : List α) : Prop := w.ownsRow 0 K.ty K.k v l.length (cellsK K l)

variable {w w' : World} {A : Option Addr} {n c g : Nat} {l : List α} {v : Value}
theorem RdG.len (h : RdG K w A n c l) : l.length = n := h.1
theorem RdG.cap (h : RdG K w A n c l) : n ≤ c := h.2.1
theorem RdG.max (h : RdG K w A n c l) : c ≤ 9223372036854775807 := h.2.2.1
theorem RdG.at_ (h : RdG K w A n c l) {j : Nat} (hj : j < n) :
    ∃ b o a, A = some ⟨b, o, none⟩ ∧ l[j]? = some a ∧ a ∈ l ∧ b < w.heap.size ∧ ∀ i u, (K.enc a)[i]? = some u → w.cell? ⟨b, o + j * K.k + i, none⟩ = some u := by
  have hl : j < l.length := by rw [h.1]; exact hj
  have hg : l[j]? = some l[j] := List.getElem?_eq_getElem hl
  obtain ⟨b, o, hA, hc⟩ := h.2.2.2 j _ hg
  have hl0 : 0 < (K.enc l[j]).length := by rw [K.len]; exact K.pos
  have hu := List.getElem?_eq_getElem hl0
  exact ⟨b, o, l[j], hA, hg, List.getElem_mem hl, World.block_lt_of_cell? w _ (hc 0 _ hu), hc⟩
theorem RdG.far (h : RdG K w A n c l) (hb : ∀ b o, A = some ⟨b, o, none⟩ → b < w.heap.size → w'.heap[b]? = w.heap[b]?) : RdG K w' A n c l := by
  refine ⟨h.1, h.2.1, h.2.2.1, fun j a ha => ?_⟩
  obtain ⟨b, o, hA, hc⟩ := h.2.2.2 j a ha
  exact ⟨b, o, hA, fun i u hu => (World.cell?_of_block (w := w) (hb b o hA (World.block_lt_of_cell? w _ (hc i u hu)))).trans (hc i u hu)⟩
theorem RdG.below (h : RdG K w A n c l) (hb : Below w.heap.size w w') : RdG K w' A n c l := h.far fun b o _ hl => hb.block b hl
theorem RdG.drewN (h : RdG K w A n c l) (q : Nat) : RdG K (w.drewN q) A n c l := h
theorem RdG.nil (w : World) (A : Option Addr) (c : Nat) (hc : c ≤ maxLen) : RdG K w A 0 c [] := ⟨rfl, Nat.zero_le _, hc, fun j a h => by simp at h⟩
theorem OwnK.nil (K : Kind α) (w : World) : OwnK K w (.slice none 0 0) [] := World.ownsRow_nil w 0 K.ty K.k
theorem OwnK.alloc (h : OwnK K w v l) (o : Obj) : OwnK K (w.alloc o) v l := World.ownsRow.alloc h o
theorem OwnK.drewN (h : OwnK K w v l) (q : Nat) : OwnK K (w.drewN q) v l := h
theorem OwnK.lt (h : OwnK K w v l) : ∀ q, v.ownBlock = some q → q < w.heap.size := fun q hq => (World.ownsRow.lt h q hq).2
theorem OwnK.far (h : OwnK K w v l) (hb : ∀ q, v.ownBlock = some q → w'.heap[q]? = w.heap[q]?) : OwnK K w' v l := by
  refine ⟨h.1, ?_⟩
  rcases h.2 with h2 | ⟨g, cap, cur, rfl, hz, hg, hr⟩
  · exact .inl h2
  · exact .inr ⟨g, cap, cur, rfl, hz, (hb g rfl).trans hg, hr⟩
theorem OwnK.below (h : OwnK K w v l) (hb : Below w.heap.size w w') : OwnK K w' v l := h.far fun q hq => hb.block q (h.lt q hq)
theorem OwnK.grown {row : Option Nat} (h : OwnK K w v l) (hg : w.grownBy w' row) (hr : ∀ q, v.ownBlock = some q → row ≠ some q) : OwnK K w' v l := h.far fun q hq => hg.block q (h.lt q hq) fun e => hr q hq e.symm
theorem OwnK.len {A : Option Addr} (h : OwnK K w (.slice A n c) l) : l.length = n := by
  rcases h.2 with ⟨h, hn⟩ | ⟨g, cap, cur, h, _⟩
  · injection h with _ h2 _; omega
  · injection h with _ h2 _; omega
/-- What is owned reads as its elements. -/
theorem OwnK.form (h : OwnK K w v l) (hn : l.length = n) : ∃ A c, v = .slice A n c ∧ RdG K w A n c l ∧ (A = none ∧ l = [] ∧ c = 0 ∨ ∃ g, A = some ⟨g, 0, none⟩ ∧ g < w.heap.size) := by
  subst hn
  rcases h.2 with ⟨rfl, hn⟩ | ⟨g, cap, cur, rfl, hbg, hg, hnc, hcm, hcs, htake⟩
  · have hl : l = [] := List.eq_nil_of_length_eq_zero hn
    subst hl
    exact ⟨none, 0, rfl, RdG.nil _ _ _ (Nat.zero_le _), .inl ⟨rfl, rfl, rfl⟩⟩
  · refine ⟨_, cap, rfl, ⟨rfl, hnc, hcm, fun j a ha => ⟨g, 0, rfl, fun i u hu => ?_⟩⟩, .inr ⟨g, rfl, (Array.getElem?_eq_some_iff.1 hg).1⟩⟩
    have hi : i < K.k := by rw [← K.len a]; exact (List.getElem?_eq_some_iff.1 hu).1
    have := World.ownsRow.cells h (g := g) rfl (j * K.k + i) u (by rw [cellsK_at ha hi]; exact hu)
    rw [Addr.add_lit, ← Nat.add_assoc] at this
    exact this
theorem OwnK.reads {A : Option Addr} (h : OwnK K w (.slice A n c) l) : RdG K w A n c l := by
  obtain ⟨A', c', e, hr, _⟩ := h.form h.len
  injection e with e1 e2 e3
  subst e1 e3
  exact hr
theorem OwnK.cell (h : OwnK K w (.slice (some ⟨g, 0, none⟩) n c) l) {j i : Nat} {a : α} {u : Value} (ha : l[j]? = some a) (hu : (K.enc a)[i]? = some u) : w.cell? ⟨g, j * K.k + i, none⟩ = some u := by
  obtain ⟨b, o, e, hc⟩ := h.reads.2.2.2 j a ha
  injection e with e; injection e with e1 e2; subst e1 e2
  simpa using hc i u hu
theorem OwnK.free (h : OwnK K w (.slice (some ⟨g, 0, none⟩) n c) l) (q : Nat) : w.frozen? ⟨g, q, none⟩ = false := by
  obtain rfl := h.len
  exact World.ownsRow.frozenAt h q
/-- A store of one cell of an element. -/
theorem OwnK.store (h : OwnK K w (.slice (some ⟨g, 0, none⟩) n c) l) {j i : Nat} {a a' : α} {u : Value} (ha : l[j]? = some a) (hi : i < K.k) (he : K.enc a' = (K.enc a).set i u) :
    OwnK K (w.setCell ⟨g, j * K.k + i, none⟩ u) (.slice (some ⟨g, 0, none⟩) n c) (l.set j a') := by
  obtain rfl := h.len
  show World.ownsRow _ 0 K.ty K.k _ _ _
  rw [List.length_set, ← cellsK_set ha hi he]
  exact (World.ownsRow.stored h (j * K.k + i) u).1
theorem OwnK.made (h : w.ownsRow 0 K.ty K.k (.slice (some ⟨g, 0, none⟩) n n) n (madeCells K.zero.cells (n * K.k)).toList) {a : α} (ha : K.enc a = K.zero.cells.toList) : OwnK K w (.slice (some ⟨g, 0, none⟩) n n) (List.replicate n a) := by
  have hc : (madeCells K.zero.cells (n * K.k)).toList = cellsK K (List.replicate n a) := by
    apply List.ext_getElem?
    intro q
    rcases Nat.lt_or_ge q (n * K.k) with hq | hq
    · have hk := K.pos
      have e1 : q = q / K.k * K.k + q % K.k := by rw [Nat.mul_comm]; exact (Nat.div_add_mod q K.k).symm
      have e2 : q / K.k < n := Nat.div_lt_of_lt_mul (by rw [Nat.mul_comm]; exact hq)
      have e3 : (cellsK K (List.replicate n a))[q]? = (K.enc a)[q % K.k]? := by
        conv => lhs; rw [e1]
        exact cellsK_at (by rw [List.getElem?_replicate, if_pos e2]) (Nat.mod_lt _ hk)
      rw [e3, ha]
      have hz := K.zk
      simp [madeCells, hq, hz]
      rw [Array.getElem?_eq_getElem (by rw [hz]; exact Nat.mod_lt _ hk)]
      simp [Nat.mod_lt _ hk, hz]
    · rw [List.getElem?_eq_none (by simp [madeCells]; exact hq), List.getElem?_eq_none (by rw [cellsK_length, List.length_replicate]; exact hq)]
  show World.ownsRow _ 0 K.ty K.k _ _ _
  rw [List.length_replicate, ← hc]
  exact h
end

section
variable {α : Type} {K : Kind α} {w : World}
/-- append of elements that are read onto an owned row: the run. -/
theorem run_appK (ty : TypeId) (v : Value) (l : List α) (hown : OwnK K w v l) (A : Option Addr) (m c : Nat) (xs : List α) (hr : RdG K w A m c xs) (hbytes : l.length + m ≤ 1000000000) :
    ∃ v' w', (Builtin.append_ #[K.sl, K.sl] ty #[v, .slice A m c]).run Tryz.prog w = .ok v' w' ∧ OwnK K w' v' (l ++ xs) ∧ w.grownBy w' v.ownBlock ∧ (v'.ownBlock = v.ownBlock ∨ v'.ownBlock = some w.heap.size) := by
  obtain ⟨i0, hi0, hz0, hz1, hz2⟩ := info_parts K.info
  have hlen := hr.1
  cases A with
  | none =>
    have hx : xs = [] := by
      cases xs with
      | nil => rfl
      | cons z q =>
        obtain ⟨b, o, h, _⟩ := hr.2.2.2 0 z (by simp)
        cases h
    subst hx
    simp at hlen
    subst hlen
    refine ⟨v, w, ?_, by simpa using hown, World.grownBy.refl _ _, .inl rfl⟩
    rcases hown.2 with ⟨rfl, _⟩ | ⟨g, cap, cur, rfl, _, _, hnc, _⟩
    · simp [Builtin.append_, run_underlying K.under, sizeOf, typeInfo, hi0, Builtin.lenOf, Builtin.firstCells]
    · simp [Builtin.append_, run_underlying K.under, sizeOf, typeInfo, hi0, Builtin.lenOf, Builtin.firstCells, hnc, storeCells]
  | some ad =>
    have hcells : ∀ j u, (cellsK K xs)[j]? = some u → w.cell? (ad.add j) = some u := by
      intro j u hu
      obtain ⟨q, a, i, h1, rfl, h3, h4⟩ := cellsK_get hu
      obtain ⟨b, o, h, hc⟩ := hr.2.2.2 q a h1
      obtain rfl := Option.some.inj h
      rw [Addr.add_lit, ← Nat.add_assoc]
      exact hc i u h4
    have hsm : (l.length + m) * K.by_ ≤ 1000000000 * 100000 := Nat.mul_le_mul hbytes K.small
    obtain ⟨v', w', hrun, h2, h3, _, h5⟩ := run_append_own_at (P := Tryz.prog) w 0 K.sl ty K.ty i0 K.zero K.k K.by_ K.under hi0 hz0 hz1 hz2 K.zk K.pos v _ _ hown ad m c (cellsK K xs)
      (by rw [cellsK_length, hlen]) hcells (fun u hu => cellsK_mem hu) (by simp only [maxLen]; omega) (by omega) (Nat.zero_le _)
    refine ⟨v', w', hrun, ?_, h3, h5⟩
    unfold OwnK
    rw [cellsK_append, List.length_append, hlen]
    exact h2
theorem wpList_appK (K : Kind α) {ops : Array Oper} {rest : List Oper} {o : Oper} {a : Act} {Q : Exit → Act → World → Prop} (hgd : o.guard = none) (s x : Operand)
    (ho : o.op = .call { callee := .builtin .append, args := #[s, x], argTypes := #[K.sl, K.sl] })
    (v : Value) (l : List α) (hs : a.eval s = v) (A : Option Addr) (m c : Nat) (xs : List α) (hx : a.eval x = .slice A m c)
    (hown : OwnK K w v l) (hr : RdG K w A m c xs) (hbytes : l.length + m ≤ 1000000000)
    (h : ∀ v' w', OwnK K w' v' (l ++ xs) → w.grownBy w' v.ownBlock → (v'.ownBlock = v.ownBlock ∨ v'.ownBlock = some w.heap.size) → wpList Tryz.prog ops Q rest (a.put o.dst v') w') :
    wpList Tryz.prog ops Q (o :: rest) a w :=
  wpList_plain hgd fun Kk hK => by
    obtain ⟨v', w', hr, h2, h3, h4⟩ := run_appK o.type v l hown A m c xs hr hbytes
    unfold Oper.wp execOp
    simp only [ho, resolve, invoke, builtin, Sem.run_bind, Sem.run_pure, Result.andThen_ok, List.map_toArray, List.map_cons, List.map_nil, hs, hx, hr]
    exact hK _ _ (h v' w' h2 h3 h4)
/-- What lies in new memory. -/
def New (W : World) (v : Value) : Prop := ∀ q, v.ownBlock = some q → W.heap.size ≤ q
theorem New.lit {W1 : World} {h m c : Nat} (e : W1.heap.size ≤ h) : New W1 (.slice (some ⟨h, 0, none⟩) m c) := fun q hq => by simp [Value.ownBlock] at hq; omega
/-- An empty literal, a literal of one. -/
theorem OwnK.empty (K : Kind α) {h : Nat} (e : h = w.heap.size) : OwnK K (w.alloc (.cells #[] K.ty)) (.slice (some ⟨h, 0, none⟩) 0 0) [] := by
  subst e; exact ⟨by simp [cellsK], .inr ⟨_, 0, #[], rfl, Nat.zero_le _, heap_alloc_new w _, Nat.le_refl _, Nat.zero_le _, by simp, by simp [cellsK]⟩⟩
end
end Go.Proofs.YtajkcjbkbihgjaaGreat

/- Colours of blocks: which object may write which block. A step that writes the blocks of some colours alone, and what stays under it. Colour 0: nobody writes it again. Conditions: none beyond those typed. -/
namespace Go.Proofs.YtajkcjbkbihgjaaGreat
open Go.ChangeShapes Go.WideShapes Go.ChangeAt Go.RowKit
set_option linter.unusedVariables false
set_option linter.unusedSimpArgs false
set_option maxRecDepth 100000

abbrev Col := Nat → Nat
/-- The colours of one object. -/
def Rng (k c : Nat) : Prop := k ≤ c ∧ c < k + 16
/-- Blocks that are not there yet have colour 0. -/
def Tidy (col : Col) (w : World) : Prop := ∀ b, w.heap.size ≤ b → col b = 0
/-- From w to w' blocks of the colours P alone are written; blocks keep their colours. -/
structure StepC (P : Nat → Prop) (col : Col) (w : World) (col' : Col) (w' : World) : Prop where
  os : w'.os = w.os
  tape : w'.tape = w.tape
  output : w'.output = w.output
  size : w.heap.size ≤ w'.heap.size
  kept : ∀ b, b < w.heap.size → col' b = col b
  tidy : Tidy col' w'
  block : ∀ b, b < w.heap.size → ¬ P (col b) → w'.heap[b]? = w.heap[b]?
/-- This block has colour c. -/
def dye (col : Col) (o : Option Nat) (c : Nat) : Col := fun b => if o = some b then c else col b
/-- The block of a row has this colour. -/
def HasCol (col : Col) (v : Value) (c : Nat) : Prop := ∀ q, v.ownBlock = some q → col q = c
/-- The block of what a slice reads has colour 0. -/
def Imm (col : Col) (A : Option Addr) (n : Nat) : Prop := 0 < n → ∀ b o sp, A = some ⟨b, o, sp⟩ → col b = 0
section
variable {P P' : Nat → Prop} {col col' col'' : Col} {w w' w'' : World} {k c g n : Nat}
theorem dye_of {b : Nat} : dye col (some b) c b = c := if_pos rfl
theorem dye_no {o : Option Nat} {b : Nat} (h : o ≠ some b) : dye col o c b = col b := if_neg h
theorem Tidy.size (h : Tidy col w) (hs : w.heap.size ≤ w'.heap.size) : Tidy col w' := fun b hb => h b (by omega)
theorem StepC.refl (h : Tidy col w) : StepC P col w col w := ⟨rfl, rfl, rfl, Nat.le_refl _, fun _ _ => rfl, h, fun _ _ _ => rfl⟩
theorem StepC.trans (h : StepC P col w col' w') (h' : StepC P col' w' col'' w'') : StepC P col w col'' w'' :=
  ⟨h'.os.trans h.os, h'.tape.trans h.tape, h'.output.trans h.output, Nat.le_trans h.size h'.size, fun b hb => (h'.kept b (Nat.lt_of_lt_of_le hb h.size)).trans (h.kept b hb), h'.tidy,
    fun b hb hp => (h'.block b (Nat.lt_of_lt_of_le hb h.size) (by rw [h.kept b hb]; exact hp)).trans (h.block b hb hp)⟩
theorem StepC.mono (h : StepC P col w col' w') (hP : ∀ c, P c → P' c) : StepC P' col w col' w' := ⟨h.os, h.tape, h.output, h.size, h.kept, h.tidy, fun b hb hp => h.block b hb fun hq => hp (hP _ hq)⟩
theorem StepC.below (ht : Tidy col w) (h : Below w.heap.size w w') : StepC P col w col w' := ⟨h.os, h.tape, h.output, h.size, fun _ _ => rfl, ht.size h.size, fun b hb _ => h.block b hb⟩
theorem StepC.drew (ht : Tidy col w) : StepC P col w col w.drew := StepC.below ht (Below.refl _ _).drew
theorem StepC.alloc (ht : Tidy col w) (o : Obj) : StepC P col w col (w.alloc o) := StepC.below ht ((Below.refl _ _).alloc (Nat.le_refl _) o)
theorem StepC.set (ht : Tidy col w) {a : Addr} (hp : P (col a.block)) (u : Value) : StepC P col w col (w.setCell a u) :=
  ⟨rfl, rfl, rfl, by simp [World.setCell], fun _ _ => rfl, ht.size (by simp [World.setCell]), fun b hb hq => Below.heap_setCell _ _ _ _ (by rintro rfl; exact hq hp)⟩
/-- Blocks of the colours P have turned, or are new; one block is given a colour. -/
theorem StepC.dyed (ht : Tidy col w) (h : StepC P col w col w') {o : Option Nat} (hold : ∀ b, b < w.heap.size → o = some b → col b = c) (hlt : ∀ b, o = some b → b < w'.heap.size) : StepC P col w (dye col o c) w' :=
  ⟨h.os, h.tape, h.output, h.size, fun b hb => by
    unfold dye
    split
    · rename_i e; exact (hold b hb e).symm
    · rfl, fun b hb => by
    rw [dye_no fun e => by have := hlt b e; omega]
    exact h.tidy b hb, h.block⟩
/-- A row of colour c has grown (append). -/
theorem StepC.grownBy (ht : Tidy col w) {row : Option Nat} (hg : w.grownBy w' row) (hr : ∀ q, row = some q → P (col q)) : StepC P col w col w' :=
  ⟨hg.os, hg.tape, hg.output, hg.size, fun b hb => rfl, ht.size hg.size, fun b hb hq => hg.block b hb (by rintro e; exact hq (hr b e.symm))⟩
theorem StepC.app (ht : Tidy col w) {v v' : Value} (hg : w.grownBy w' v.ownBlock) (hc : HasCol col v c) (hP : P c) (hv : v'.ownBlock = v.ownBlock ∨ v'.ownBlock = some w.heap.size) (hl : ∀ q, v'.ownBlock = some q → q < w'.heap.size) :
    StepC P col w (dye col v'.ownBlock c) w' :=
  (StepC.grownBy ht hg fun q hq => by rw [hc q hq]; exact hP).dyed ht (fun b hb e => by
    rcases hv with hv | hv
    · exact hc b (hv.symm.trans e)
    · rw [hv] at e; injection e with e; omega) hl
/-- A new row is given a colour. -/
theorem StepC.newRow (ht : Tidy col w) {o : Option Nat} (hb : Below w.heap.size w w') (hn : ∀ b, o = some b → w.heap.size ≤ b ∧ b < w'.heap.size) : StepC P col w (dye col o c) w' :=
  (StepC.below ht hb).dyed ht (fun b hb e => by have := hn b e; omega) (fun b e => (hn b e).2)
/-- A block that is new and gets a colour. -/
theorem StepC.new (ht : Tidy col w) (o : Obj) (c : Nat) (P : Nat → Prop) : StepC P col w (dye col (some w.heap.size) c) (w.alloc o) :=
  StepC.newRow ht ((Below.refl _ _).alloc (Nat.le_refl _) o) fun b e => by injection e with e; subst e; exact ⟨Nat.le_refl _, by simp⟩
theorem rng0 {k : Nat} (hk : 1 ≤ k) : ¬ Rng k 0 := fun h => by have := h.1; omega
theorem StepC.lt (h : StepC P col w col' w') {b : Nat} (hb : b < w.heap.size) : b < w'.heap.size := Nat.lt_of_lt_of_le hb h.size
/-- A cell that is not written. -/
theorem StepC.cell (hs : StepC P col w col' w') {a : Addr} {v : Value} (hc : w.cell? a = some v) (h0 : ¬ P (col a.block)) : w'.cell? a = some v := (World.cell?_of_block (w := w) (hs.block _ (World.block_lt_of_cell? w a hc) h0)).trans hc
theorem HasCol.step {v : Value} (h : HasCol col v c) (hs : StepC P col w col' w') (hl : ∀ q, v.ownBlock = some q → q < w.heap.size) : HasCol col' v c := fun q hq => (hs.kept q (hl q hq)).trans (h q hq)
theorem HasCol.dye (v : Value) (c : Nat) : HasCol (dye col v.ownBlock c) v c := fun q hq => by rw [hq]; exact dye_of
theorem HasCol.nil (col : Col) (c : Nat) : HasCol col (.slice none 0 0) c := fun q hq => by simp [Value.ownBlock] at hq
theorem HasCol.of {m d : Nat} (h : HasCol col (.slice (some ⟨g, 0, none⟩) m d) c) : col g = c := h g rfl
theorem Imm.step {A : Option Addr} (h : Imm col A n) (hs : StepC P col w col' w') (hl : 0 < n → ∀ b o sp, A = some ⟨b, o, sp⟩ → b < w.heap.size) : Imm col' A n := fun hn b o sp e => (hs.kept b (hl hn b o sp e)).trans (h hn b o sp e)

/-- An own row of a colour. -/
structure OwnKc {α : Type} (K : Kind α) (col : Col) (w : World) (c : Nat) (v : Value) (l : List α) : Prop where
  own : OwnK K w v l
  col : HasCol col v c
/-- A block of cells of a colour. -/
structure BoxC (col : Col) (w : World) (g c : Nat) (cs : Array Value) (t : TypeId) : Prop where
  heap : w.heap[g]? = some (.cells cs t (0, 0))
  col : col g = c
theorem BoxC.lt {cs : Array Value} {t : TypeId} (h : BoxC col w g c cs t) : g < w.heap.size := (Array.getElem?_eq_some_iff.1 h.heap).1
theorem BoxC.keep {cs : Array Value} {t : TypeId} (h : BoxC col w g c cs t) (hs : StepC P col w col' w') (hp : ¬ P c) : BoxC col' w' g c cs t :=
  ⟨(hs.block g h.lt (by rw [h.col]; exact hp)).trans h.heap, (hs.kept g h.lt).trans h.col⟩
theorem BoxC.cell {cs : Array Value} {t : TypeId} (h : BoxC col w g c cs t) (i : Nat) {u : Value} (hu : cs[i]? = some u) : w.cell? ⟨g, i, none⟩ = some u := by rw [Lib.cell_of_heap h.heap]; exact hu
theorem BoxC.free {cs : Array Value} {t : TypeId} (h : BoxC col w g c cs t) (i : Nat) : w.frozen? ⟨g, i, none⟩ = false := by simp [World.frozen?, h.heap]
theorem BoxC.put {cs : Array Value} {t : TypeId} (h : BoxC col w g c cs t) (i : Nat) (u : Value) : BoxC col (w.setCell ⟨g, i, none⟩ u) g c (cs.setIfInBounds i u) t := by
  refine ⟨?_, h.col⟩
  have := h.heap
  simp [World.setCell, Array.getElem?_modify, this]
variable {α : Type} {K : Kind α} {v : Value} {l : List α} {A : Option Addr} {m d : Nat}
theorem OwnKc.keep (h : OwnKc K col w c v l) (hs : StepC P col w col' w') (hp : ¬ P c) : OwnKc K col' w' c v l :=
  ⟨h.own.far fun q hq => hs.block q (h.own.lt q hq) (by rw [h.col q hq]; exact hp), h.col.step hs h.own.lt⟩
theorem OwnKc.nil (K : Kind α) (col : Col) (w : World) (c : Nat) : OwnKc K col w c (.slice none 0 0) [] := ⟨OwnK.nil K w, HasCol.nil col c⟩
/-- Behind an append onto it, or as it is made. -/
theorem OwnKc.mk' (K : Kind α) (ho : OwnK K w v l) : OwnKc K (dye col v.ownBlock c) w c v l := ⟨ho, HasCol.dye v c⟩
theorem OwnKc.set (h : OwnKc K col w c (.slice (some ⟨g, 0, none⟩) n d) l) {j i : Nat} {a a' : α} {u : Value} (ha : l[j]? = some a) (hi : i < K.k) (he : K.enc a' = (K.enc a).set i u) :
    OwnKc K col (w.setCell ⟨g, j * K.k + i, none⟩ u) c (.slice (some ⟨g, 0, none⟩) n d) (l.set j a') := ⟨h.own.store ha hi he, h.col⟩
/-- Since the call began in w0 nothing elder has turned. -/
structure Since (w0 : World) (col : Col) (w : World) : Prop where
  below : Below w0.heap.size w0 w
  elder : ∀ b, b < w0.heap.size → col b = 0
  tidy : Tidy col w
theorem Since.start (w : World) : Since w (fun _ => 0) w := ⟨Below.refl _ _, fun _ _ => rfl, fun _ _ => rfl⟩
theorem Since.step {w0 : World} (h : Since w0 col w) (hs : StepC P col w col' w') (hp : ¬ P 0) : Since w0 col' w' :=
  ⟨⟨hs.os.trans h.below.os, hs.tape.trans h.below.tape, hs.output.trans h.below.output, Nat.le_trans h.below.size hs.size, fun b hb => (hs.block b (Nat.lt_of_lt_of_le hb h.below.size) (by rw [h.elder b hb]; exact hp)).trans (h.below.block b hb)⟩,
    fun b hb => (hs.kept b (Nat.lt_of_lt_of_le hb h.below.size)).trans (h.elder b hb), hs.tidy⟩
end
/-- An element of four cells is written. -/
theorem OwnKc.put4 {α : Type} {K : Kind α} {col : Col} {w : World} {c x n m i : Nat} {l : List α} {a a' : α} {u0 u1 u2 u3 : Value} (h : OwnKc K col w c (.slice (some ⟨x, 0, none⟩) n m) l) (ht : Tidy col w) (hk : K.k = 4) (ha : l[i]? = some a)
    {p0 p1 p2 : α} (e0 : K.enc p0 = (K.enc a).set 0 u0) (e1 : K.enc p1 = (K.enc p0).set 1 u1) (e2 : K.enc p2 = (K.enc p1).set 2 u2) (e3 : K.enc a' = (K.enc p2).set 3 u3) :
    OwnKc K col ((((w.setCell ⟨x, i * 4, none⟩ u0).setCell ⟨x, i * 4 + 1, none⟩ u1).setCell ⟨x, i * 4 + 2, none⟩ u2).setCell ⟨x, i * 4 + 3, none⟩ u3) c (.slice (some ⟨x, 0, none⟩) n m) (l.set i a') ∧
      StepC (fun d => d = c) col w col ((((w.setCell ⟨x, i * 4, none⟩ u0).setCell ⟨x, i * 4 + 1, none⟩ u1).setCell ⟨x, i * 4 + 2, none⟩ u2).setCell ⟨x, i * 4 + 3, none⟩ u3) := by
  have hi := (List.getElem?_eq_some_iff.1 ha).1
  have hc := h.col.of
  have h0 := h.set (j := i) (i := 0) ha (by omega) e0
  have a0 : (l.set i p0)[i]? = some p0 := by rw [List.getElem?_set, if_pos rfl, if_pos hi]
  have h1 := h0.set (j := i) (i := 1) a0 (by omega) e1
  rw [List.set_set] at h1
  have a1 : (l.set i p1)[i]? = some p1 := by rw [List.getElem?_set, if_pos rfl, if_pos hi]
  have h2 := h1.set (j := i) (i := 2) a1 (by omega) e2
  rw [List.set_set] at h2
  have a2 : (l.set i p2)[i]? = some p2 := by rw [List.getElem?_set, if_pos rfl, if_pos hi]
  have h3 := h2.set (j := i) (i := 3) a2 (by omega) e3
  rw [List.set_set] at h3
  rw [hk] at h3
  have s0 := StepC.set (P := fun d => d = c) (a := ⟨x, i * 4, none⟩) ht hc u0
  have s1 := StepC.set (P := fun d => d = c) (a := ⟨x, i * 4 + 1, none⟩) s0.tidy hc u1
  have s2 := StepC.set (P := fun d => d = c) (a := ⟨x, i * 4 + 2, none⟩) s1.tidy hc u2
  have s3 := StepC.set (P := fun d => d = c) (a := ⟨x, i * 4 + 3, none⟩) s2.tidy hc u3
  exact ⟨h3, ((s0.trans s1).trans s2).trans s3⟩
end Go.Proofs.YtajkcjbkbihgjaaGreat

/- Rows of texts; cutting a row whose elements are one cell each. Conditions: none beyond those typed. -/
namespace Go.Proofs.YtajkcjbkbihgjaaGreat
open Go.ChangeShapes Go.WideShapes Go.ChangeAt Go.RowKit
set_option linter.unusedVariables false
set_option linter.unusedSimpArgs false

section
variable {α : Type} {K : Kind α} {w : World} {A : Option Addr} {n c : Nat} {l : List α}
end
end Go.Proofs.YtajkcjbkbihgjaaGreat

/- A region that draws its order, in which loads are taken first although later operations write what they read: those operations wait for every load. Conditions: none beyond those typed. -/
namespace Go.Proofs.YtajkcjbkbihgjaaGreat
section
variable {P : Program} {ops : Array Oper} {Q : Exit → Act → World → Prop} {md : Region.Mode} {S : World → Prop} {late : Nat → Bool}
end
end Go.Proofs.YtajkcjbkbihgjaaGreat

/- Rows that a statement makes anew: append upon append onto new memory, whatever order the draw picks. Conditions: none beyond those typed. -/
namespace Go.Proofs.YtajkcjbkbihgjaaGreat
open Go.ChangeShapes Go.WideShapes Go.ChangeAt Go.RowKit
set_option linter.unusedVariables false
set_option linter.unusedSimpArgs false

section
variable {w w' : World} {vK v' : Value}
theorem bdM (w : World) : Below w.heap.size w w.drew := (Below.refl _ _).drew
theorem OwnK.empty' {α : Type} (K : Kind α) {h : Nat} {t : TypeId} (ht : K.ty = t) (e : h = w.heap.size) : OwnK K (w.alloc (.cells #[] t)) (.slice (some ⟨h, 0, none⟩) 0 0) [] := by subst ht; exact OwnK.empty K e
theorem New.app {W1 : World} (hn : New W1 vK) (hB : Below W1.heap.size W1 w) (hat : v'.ownBlock = vK.ownBlock ∨ v'.ownBlock = some w.heap.size) : New W1 v' := fun q hq => by
  rcases hat with e | e
  · exact hn q (e.symm.trans hq)
  · rw [e] at hq; injection hq with hq; have := hB.size; omega
end
end Go.Proofs.YtajkcjbkbihgjaaGreat

/- make of rows. Conditions: none beyond those typed. -/
namespace Go.Proofs.YtajkcjbkbihgjaaGreat
open Go.ChangeShapes Go.WideShapes Go.ChangeAt Go.RowKit
set_option linter.unusedVariables false
set_option linter.unusedSimpArgs false
set_option maxRecDepth 100000

/-- make of a row of zeros. -/
theorem make_any {α : Type} (K : Kind α) {n : Nat} (hn : n ≤ 1000000) {z : α} (hz : K.enc z = K.zero.cells.toList) :
    ∃ CS : Array Value, (∀ W : World, (Instr.makeSlice K.sl (.int .i64 (n : Int)) (.int .i64 (n : Int))).run Tryz.prog W = .ok (.slice (some ⟨W.heap.size, 0, none⟩) n n) (W.alloc (.cells CS K.ty))) ∧ ∀ W : World, OwnK K (W.alloc (.cells CS K.ty)) (.slice (some ⟨W.heap.size, 0, none⟩) n n) (List.replicate n z) := by
  obtain ⟨i0, hi0, hz0, hz1, hz2⟩ := info_parts K.info
  have hsm : K.by_ * n ≤ 100000 * 1000000 := Nat.mul_le_mul K.small hn
  refine ⟨madeCells K.zero.cells (n * K.k), fun W => ?_, fun W => ?_⟩
  · have hb : (i0.bytes : Int) * (n : Int) ≤ 281474976710656 := by
      have h : ((i0.bytes * n : Nat) : Int) ≤ 281474976710656 := by rw [hz2]; omega
      rwa [Int.natCast_mul] at h
    have := run_make (P := Tryz.prog) W K.sl K.ty i0 K.zero K.under hi0 hz0 .i64 .i64 n n (by omega) (Int.le_refl _) hb (by omega)
    simpa only [Int.toNat_natCast, hz1] using this
  · exact OwnK.made (World.ownsRow_lit W _ n (Nat.zero_le _) (by simp only [maxLen]; omega) (size_madeCells _ _)) hz
theorem OwnK.one {α : Type} {K : Kind α} {w : World} {h : Nat} (e : h = w.heap.size) (a : α) {cs : Array Value} (hc : cs.toList = K.enc a) : OwnK K (w.alloc (.cells cs K.ty)) (.slice (some ⟨h, 0, none⟩) 1 1) [a] := by
  subst e
  have hl : cs.size = K.k := by rw [← Array.length_toList, hc, K.len]
  have he : cellsK K [a] = cs.toList := by rw [hc]; simp [cellsK]
  exact ⟨by rw [he, Array.length_toList, hl]; simp, .inr ⟨_, 1, cs, rfl, Nat.zero_le _, heap_alloc_new w _, Nat.le_refl _, by simp [maxLen], by rw [hl, Nat.one_mul], by
    rw [he, List.take_of_length_le]
    rw [Array.length_toList, hl]
    simp⟩⟩
end Go.Proofs.YtajkcjbkbihgjaaGreat

/- Entries in memory; the specified table in memory: the box, place, Exact, Untracked, Total, New. Conditions: none beyond those typed. -/
namespace Go.Proofs.YtajkcjbkbihgjaaGreat
open Go.ChangeShapes Go.WideShapes Go.ChangeAt Go.RowKit
set_option linter.unusedVariables false
set_option linter.unusedSimpArgs false
set_option maxRecDepth 100000

def enE (e : En) : List Value := [.string e.1, .int .u64 e.2.1, .int .u64 e.2.2]
/-- Entries. -/
def kEn : Kind En where
  ty := 34
  sl := 46
  k := 3
  by_ := 32
  zero := .agg #[.string ⟨#[]⟩, .int .u64 0, .int .u64 0]
  enc := enE
  pos := by omega
  len := fun _ => rfl
  one := fun a u hu => by simp [enE] at hu; rcases hu with rfl | rfl | rfl <;> rfl
  under := Tryz.underlying46
  info := by kernel_rfl
  zk := rfl
  small := by omega
/-- An entry as the cells of a box. -/
abbrev VE (e : En) : Array Value := #[.string e.1, .int .u64 e.2.1, .int .u64 e.2.2]
/-- The specified table (mode Saving): the box, the row of entries. -/
structure RefTB (col : Col) (k : Nat) (w : World) (g : Nat) (t : TSt) (A : Option Addr) (c : Nat) : Prop where
  box : BoxC col w g k #[.int .i64 1, .int .i64 t.m, .slice A t.l.length c, .int .u64 t.base, .int .u64 t.sum] 58
  row : OwnKc kEn col w (k + 1) (.slice A t.l.length c) t.l
  k1 : 1 ≤ k
def RefT (col : Col) (k : Nat) (w : World) (g : Nat) (t : TSt) : Prop := GoodT t ∧ ∃ A c, RefTB col k w g t A c
def DidRT (col : Col) (k : Nat) (w : World) (g : Nat) (t : TSt) (w' : World) : Prop := ∃ col', RefT col' k w' g t ∧ StepC (Rng k) col w col' w'
section
variable {P : Nat → Prop} {col col' : Col} {w w' : World} {k g : Nat} {t : TSt} {A : Option Addr} {c : Nat}
theorem RefTB.keep (h : RefTB col k w g t A c) (hs : StepC P col w col' w') (hp : ∀ c, Rng k c → ¬ P c) : RefTB col' k w' g t A c :=
  ⟨h.box.keep hs (hp _ ⟨Nat.le_refl _, by omega⟩), h.row.keep hs (hp _ ⟨by omega, by omega⟩), h.k1⟩
theorem RefTB.below (h : RefTB col k w g t A c) (ht : Tidy col w) (hb : Below w.heap.size w w') : RefTB col k w' g t A c := h.keep (P := fun _ => False) (StepC.below ht hb) (fun _ _ h => h)
theorem RefT.keep (h : RefT col k w g t) (hs : StepC P col w col' w') (hp : ∀ c, Rng k c → ¬ P c) : RefT col' k w' g t := by
  obtain ⟨G, A, c, H⟩ := h
  exact ⟨G, A, c, H.keep hs hp⟩
theorem RefT.below (h : RefT col k w g t) (ht : Tidy col w) (hb : Below w.heap.size w w') : RefT col k w' g t := h.keep (P := fun _ => False) (StepC.below ht hb) (fun _ _ h => h)
end
end Go.Proofs.YtajkcjbkbihgjaaGreat

/- New blocks get a colour; stores into new blocks. Conditions: none beyond those typed. -/
namespace Go.Proofs.YtajkcjbkbihgjaaGreat
open Go.ChangeShapes Go.WideShapes Go.ChangeAt Go.RowKit
set_option linter.unusedVariables false
set_option linter.unusedSimpArgs false

section
variable {col col' : Col} {w w' : World}
end
end Go.Proofs.YtajkcjbkbihgjaaGreat

/- The specified table in memory: without, Get, Take. Conditions: none beyond those typed. -/
namespace Go.Proofs.YtajkcjbkbihgjaaGreat
open Go.ChangeShapes Go.WideShapes Go.ChangeAt Go.RowKit
set_option linter.unusedVariables false
set_option linter.unusedSimpArgs false
set_option maxRecDepth 100000

section
variable {P : Nat → Prop} {col col' : Col} {w w' : World} {k g : Nat} {t : TSt}
/-- A row in new memory takes the place of the row. -/
theorem RefTB.newRow {A A' : Option Addr} {c c' N : Nat} {l' : List En} (h : RefTB col k w g t A c) (ht : Tidy col w) (hB : Below w.heap.size w w') (hN : l'.length = N) (hO : OwnK kEn w' (.slice A' N c') l') (hW : New w (.slice A' N c')) :
    ∃ col', RefTB col' k (w'.setCell ⟨g, 2, none⟩ (.slice A' N c')) g { t with l := l' } A' c' ∧ StepC (Rng k) col w col' (w'.setCell ⟨g, 2, none⟩ (.slice A' N c')) := by
  subst hN
  have hk := h.k1
  have s1 : StepC (fun _ => False) col w (dye col (Value.slice A' l'.length c').ownBlock (k + 1)) w' := StepC.newRow ht hB fun b e => ⟨hW b e, hO.lt b e⟩
  have b1 := h.box.keep s1 (fun h => h)
  have s2 := StepC.set (P := fun d => d = k) s1.tidy (a := ⟨g, 2, none⟩) b1.col (.slice A' l'.length c')
  exact ⟨_, ⟨b1.put 2 _, (OwnKc.mk' (c := k + 1) kEn hO).keep s2 (by omega), hk⟩, (s1.mono fun _ h => h.elim).trans (s2.mono fun c e => ⟨by omega, by omega⟩)⟩
end
end Go.Proofs.YtajkcjbkbihgjaaGreat

/- The specified table in memory: New. Conditions: none beyond those typed. -/
namespace Go.Proofs.YtajkcjbkbihgjaaGreat
open Go.ChangeShapes Go.WideShapes Go.ChangeAt Go.RowKit
set_option linter.unusedVariables false
set_option linter.unusedSimpArgs false
set_option maxRecDepth 100000

def svE (m : Int) : Int := if m < 1 ∨ 64 < m then 1 else 0
def NewRT (col : Col) (k : Nat) (m : Int) (w : World) (e : Ending) (w' : World) : Prop :=
  (svE m = 0 ∧ ∃ g, e = .returned (.tuple #[.pointer (some ⟨g, 0, none⟩), .int .i64 0]) ∧ DidRT col k w g (newT m.toNat) w') ∨ (svE m = 1 ∧ e = .returned (.tuple #[.pointer none, .int .i64 1]) ∧ Below w.heap.size w w')
section
variable {col : Col} {w : World} {k : Nat}
theorem new_rt (ht : Tidy col w) (hk : 1 ≤ k) {n : Nat} (hG : GoodT (newT n)) :
    DidRT col k w w.heap.size (newT n) (w.alloc (.cells #[.int .i64 1, .int .i64 n, .slice none 0 0, .int .u64 0, .int .u64 0] 58)) :=
  ⟨dye col (some w.heap.size) k, ⟨hG, _, _, ⟨heap_alloc_new w _, dye_of⟩, OwnKc.nil kEn _ _ _, hk⟩, StepC.newRow ht ((Below.refl _ _).alloc (Nat.le_refl _) _) fun b e => by injection e with e; subst e; exact ⟨Nat.le_refl _, by simp⟩⟩
set_option maxHeartbeats 1000000 in
theorem rtNew (ht : Tidy col w) (hk : 1 ≤ k) (m : Int) (hn : -9223372036854775808 ≤ m ∧ m ≤ 9223372036854775807) :
    Calls Tryz.prog 9 #[.int .i64 1, .int .i64 m] w (NewRT col k m w) := by
  obtain ⟨i1, i2⟩ := hn
  by_cases h1 : m < 1
  · have HE := Lib.hid (show svE m = 1 from if_pos (.inl h1))
    go_enter Tryz.func9, Tryz.ntmps9
    go_wp2
    go_ret2
    exact .inr ⟨HE.out, rfl, Below.refl _ _⟩
  by_cases h2 : 64 < m
  · have HE := Lib.hid (show svE m = 1 from if_pos (.inr h2))
    go_enter Tryz.func9, Tryz.ntmps9
    go_wp2
    go_ret2
    exact .inr ⟨HE.out, rfl, Below.refl _ _⟩
  obtain ⟨q, hq⟩ : ∃ q : Nat, m = q := ⟨m.toNat, by omega⟩
  subst hq
  have HE := Lib.hid (show svE q = 0 from if_neg (by omega))
  have HG := Lib.hid (newT_good (m := q) ⟨by omega, by omega⟩)
  have HM := Lib.hid (new_rt (n := q) ht hk HG.out)
  go_enter Tryz.func9, Tryz.ntmps9
  go_wp2
  go_ret2
  exact .inl ⟨HE.out, _, rfl, HM.out⟩
end
end Go.Proofs.YtajkcjbkbihgjaaGreat
