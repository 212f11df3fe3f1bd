/- heavykeysref01.Sort: the sorted tags, or the first error. Conditions: none beyond those typed. -/
import Derived.Test.YtfihaonpifoekaaTags
namespace Go.Proofs.Ytfihaonpifoekaa
open Go.ChangeShapes Go.WideShapes Go.ChangeAt Go.RowKit
set_option linter.unusedVariables false
set_option maxRecDepth 100000
set_option linter.unusedSimpArgs false

theorem RdT.one (w : World) (p q : ByteArray) (hp : p.size ≤ 140737488355328) (hq : q.size ≤ 140737488355328) : RdT (w.alloc (.cells #[.string p, .string q] 73)) (some ⟨w.heap.size, 0, none⟩) 1 1 [(p, q)] :=
  ⟨rfl, Nat.le_refl _, by simp [maxLen], fun y hy => by simp at hy; subst hy; exact ⟨hp, hq⟩, fun j t ht => by
    match j, ht with
    | 0, ht =>
      simp at ht; subst ht
      refine ⟨_, _, rfl, ?_, ?_⟩
      · rw [World.cell?_alloc_at _ _ _ _ rfl]; rfl
      · rw [World.cell?_alloc_at _ _ _ _ rfl]; rfl
    | j + 1, ht => simp at ht⟩
theorem RdT.take {w : World} {A : Option Addr} {n c : Nat} {l : List Tg} (h : RdT w A n c l) {k : Nat} (hk : k ≤ n) : RdT w A k c (l.take k) := by
  refine ⟨by rw [List.length_take, h.1]; omega, Nat.le_trans hk h.2.1, h.2.2.1, fun z hz => h.sizes z (List.mem_of_mem_take hz), fun j t ht => ?_⟩
  rw [List.getElem?_take] at ht
  split at ht
  · exact h.2.2.2.2 j t ht
  · cases ht
theorem RdT.grown {w w' : World} {A : Option Addr} {n c : Nat} {l : List Tg} {row : Option Nat} (h : RdT w A n c l) (hg : w.grownBy w' row) (hne : ∀ b o, A = some ⟨b, o, none⟩ → some b ≠ row) : RdT w' A n c l :=
  ⟨h.1, h.2.1, h.2.2.1, h.2.2.2.1, fun j t ht => by
    obtain ⟨b, o, hA, h1, h2⟩ := h.2.2.2.2 j t ht
    have := hne b o hA
    exact ⟨b, o, hA, hg.cell h1 this, hg.cell h2 this⟩⟩

theorem step_appT {ops : Array Oper} {o : Oper} {a : Act} {w : World} {K : Act → World → Prop} {Q : Exit → Act → World → Prop} {E : Prop} (hgd : o.guard = none) (s x : Operand)
    (ho : o.op = .call { callee := .builtin .append, args := #[s, x], argTypes := #[64, 64] })
    (base : Nat) (v : Value) (l : List Tg) (hs : a.eval s = v) (A : Option Addr) (m c : Nat) (xs : List Tg) (hx : a.eval x = .slice A m c)
    (hown : OwnT w base v l) (hr : RdT w A m c xs)
    (hbytes : l.length + m ≤ 1000000) (hbase : base ≤ w.heap.size)
    (h : ∀ v' w', OwnT w' base v' (l ++ xs) → w.grownBy w' v.ownBlock → (v'.ownBlock = v.ownBlock ∨ v'.ownBlock = some w.heap.size) → K (a.put o.dst v') w') :
    if Region.wanted o (yielded ops a.tmps) = true then Oper.wp Try.prog o a w K Q else E := by
  have hw : Region.wanted o (yielded ops a.tmps) = true := by simp [Region.wanted, hgd]
  rw [if_pos hw]
  obtain ⟨v', w', hr, h2, h3, h4⟩ := run_appT base o.type v l hown A m c xs hr hbytes hbase
  unfold Oper.wp execOp
  simp only [ho, resolve, invoke, builtin, Sem.run_bind, Sem.run_pure, Result.andThen_ok, List.map_toArray, List.map_cons, List.map_nil, hs, hx, hr]
  exact h v' w' h2 h3 h4

theorem OwnT.formN {w : World} {base n : Nat} {v : Value} {l : List Tg} (h : OwnT w base v l) (hn : l.length = n) :
    ∃ A c, v = .slice A n c ∧ RdT w A n c l ∧ (∀ b o, A = some ⟨b, o, none⟩ → o = 0 ∧ base ≤ b) := by
  subst hn
  obtain ⟨A, c, hv, hr, hh⟩ := h.form
  refine ⟨A, c, hv, hr, fun b o hA => ?_⟩
  rcases hh with ⟨h0, _⟩ | ⟨g, hg, hb, _⟩
  · rw [h0] at hA; cases hA
  · rw [hg] at hA; injection hA with hA; injection hA with h1 h2; subst h1; exact ⟨h2.symm, hb⟩
/-- The box of a tag, and all that is older than it, stand as they stood. -/
def KS (W1 : World) (g : Nat) (p q : ByteArray) (w : World) : Prop := w.cell? ⟨g, 0, none⟩ = some (.string p) ∧ w.cell? ⟨g, 1, none⟩ = some (.string q) ∧ Below W1.heap.size W1 w
theorem KS.mk' {W1 w : World} {g : Nat} {p q : ByteArray} (c0 : W1.cell? ⟨g, 0, none⟩ = some (.string p)) (c1 : W1.cell? ⟨g, 1, none⟩ = some (.string q)) (h : Below W1.heap.size W1 w) : KS W1 g p q w :=
  ⟨(h.cell (p := ⟨g, 0, none⟩) (World.block_lt_of_cell? _ ⟨g, 0, none⟩ c0)).trans c0, (h.cell (p := ⟨g, 1, none⟩) (World.block_lt_of_cell? _ ⟨g, 1, none⟩ c1)).trans c1, h⟩
theorem KS.alloc {W1 w : World} {g : Nat} {p q : ByteArray} (c0 : W1.cell? ⟨g, 0, none⟩ = some (.string p)) (c1 : W1.cell? ⟨g, 1, none⟩ = some (.string q)) (o : Obj) (h : KS W1 g p q w) : KS W1 g p q (w.alloc o) :=
  KS.mk' c0 c1 (h.2.2.alloc h.2.2.size _)
theorem KS.grown {W1 w w' : World} {g : Nat} {p q : ByteArray} (c0 : W1.cell? ⟨g, 0, none⟩ = some (.string p)) (c1 : W1.cell? ⟨g, 1, none⟩ = some (.string q)) {v : Value} {l : List Tg} (h : KS W1 g p q w) (hO : OwnT w W1.heap.size v l) (hg : w.grownBy w' v.ownBlock) : KS W1 g p q w' :=
  KS.mk' c0 c1 (Below.appT h.2.2 hO hg h.2.2.size (Nat.le_refl _))
theorem below_d (W1 : World) (m : Nat) (o : Obj) : Below W1.heap.size W1 ((W1.drewN m).alloc o) := by
  refine Below.alloc ?_ ?_ _
  · exact ⟨rfl, rfl, rfl, Nat.le_refl _, fun _ _ => rfl⟩
  · exact Nat.le_refl _
theorem below_d2 (W1 : World) (m : Nat) (o o' : Obj) : Below W1.heap.size W1 (((W1.drewN m).alloc o).alloc o') := by
  refine Below.alloc (below_d W1 m o) ?_ _
  simp
theorem OwnT.empty' {w : World} {B h : Nat} (e : h = w.heap.size) (hB : B ≤ w.heap.size) : OwnT (w.alloc (.cells #[] 73)) B (.slice (some ⟨h, 0, none⟩) 0 0) [] := by
  subst e; exact (OwnT.empty w).weaken hB
theorem RdT.one' {w : World} {h : Nat} {p q : ByteArray} (e : h = w.heap.size) (hs : p.size ≤ 140737488355328 ∧ q.size ≤ 140737488355328) : RdT (w.alloc (.cells #[.string p, .string q] 73)) (some ⟨h, 0, none⟩) 1 1 [(p, q)] := by
  subst e; exact RdT.one w p q hs.1 hs.2
theorem RdT.drop {w : World} {b o n c : Nat} {l : List Tg} (h : RdT w (some ⟨b, o, none⟩) n c l) {k : Nat} (hk : k ≤ n) : RdT w (some ⟨b, o + k * 2, none⟩) (n - k) (c - k) (l.drop k) := by
  refine ⟨by rw [List.length_drop, h.1], by have := h.2.1; omega, by have := h.2.2.1; omega, fun z hz => h.sizes z (List.mem_of_mem_drop hz), fun j t ht => ?_⟩
  rw [List.getElem?_drop] at ht
  obtain ⟨b', o', hA, h1, h2⟩ := h.2.2.2.2 _ t ht
  injection hA with hA
  injection hA with e1 e2
  subst e1; subst e2
  refine ⟨_, _, rfl, ?_, ?_⟩
  · rw [← h1]; congr 2; omega
  · rw [← h2]; congr 2; omega
theorem step_appK {ops : Array Oper} {o : Oper} {a : Act} {w : World} {K : Act → World → Prop} {Q : Exit → Act → World → Prop} {E : Prop} (W1 : World) (hgd : o.guard = none) (s x : Operand)
    (ho : o.op = .call { callee := .builtin .append, args := #[s, x], argTypes := #[64, 64] })
    (v : Value) (l : List Tg) (hs : a.eval s = v) (A : Option Addr) (m c : Nat) (xs : List Tg) (hx : a.eval x = .slice A m c)
    (hown : OwnT w W1.heap.size v l) (hr : RdT w A m c xs) (hbytes : l.length + m ≤ 1000000) (hB : Below W1.heap.size W1 w)
    (h : ∀ v' w', OwnT w' W1.heap.size v' (l ++ xs) → Below W1.heap.size W1 w' → (∀ A n c l, RdT w A n c l → (∀ b o, A = some ⟨b, o, none⟩ → v.ownBlock ≠ some b) → RdT w' A n c l) → K (a.put o.dst v') w') :
    if Region.wanted o (yielded ops a.tmps) = true then Oper.wp Try.prog o a w K Q else E :=
  step_appT hgd s x ho W1.heap.size v l hs A m c xs hx hown hr hbytes hB.size fun v' w' hO hg _ =>
    h v' w' hO (Below.appT hB hown hg hB.size (Nat.le_refl _)) fun A n c l hr hne => hr.grown hg fun b o e => fun e' => hne b o e e'.symm
theorem own_ne {h h' : Nat} (hne : h' ≠ h) : ∀ b o, (some (⟨h', 0, none⟩ : Addr)) = some ⟨b, o, none⟩ → (Value.slice (some ⟨h, 0, none⟩) 0 0).ownBlock ≠ some b := by
  rintro b o e
  injection e with e
  injection e with e1
  subst e1
  simp only [Value.ownBlock, ne_eq, Option.some.injEq]
  exact fun x => hne x.symm
theorem RdT.end_ {w : World} {A : Option Addr} {j m c : Nat} {l : List Tg} (hl : l.length ≤ j) (hm : m = 0) (hc : c ≤ maxLen) : RdT w A m c (l.drop j) := by
  subst hm
  rw [List.drop_of_length_le hl]
  exact RdT.nil w A c hc
theorem RdT.far {W1 w : World} {A : Option Addr} {n c : Nat} {l : List Tg} {g : Nat} {p q : ByteArray} (h : RdT W1 A n c l) (hk : KS W1 g p q w) : RdT w A n c l := h.below hk.2.2
theorem ref_fin {l : List Tg} {k j : Nat} {t : Tg} (ht : l[k]? = some t) (hS : Strict (srt (l.take k))) (h1 : ∀ x ∈ (srt (l.take k)).take j, lt x t = true) (h2 : ∀ x, (srt (l.take k))[j]? = some x → lt t x = true) :
    ([] ++ (srt (l.take k)).take j ++ [t]) ++ (srt (l.take k)).drop j = srt (l.take (k + 1)) ∧ Strict (srt (l.take (k + 1))) := by
  have e : l.take (k + 1) = l.take k ++ [t] := by rw [List.take_add_one, ht]; rfl
  rw [e, srt_snoc]
  obtain ⟨a, b⟩ := strict_ins hS h1 h2
  exact ⟨by rw [← a]; simp, b⟩
theorem str_nm {p q p' q' : ByteArray} (h : (p'.toList == p.toList) = true) : nm (p', q') = nm (p, q) := by
  simp only [nm]; rw [← Lib.toList_data, ← Lib.toList_data]; exact beq_iff_eq.1 h
theorem ref_less {s : List Tg} {j : Nat} {p q p' q' : ByteArray} {x : Tg} (hg : s[j]? = some (p', q')) (h1 : Op.bytesLess p'.toList p.toList = false) (h2 : (p'.toList == p.toList) = false) (hx : s[j]? = some x) : lt (p, q) x = true := by
  rw [hg] at hx
  obtain rfl := Option.some.inj hx
  rw [Lib.toList_data, Lib.toList_data] at h1 h2
  rcases lt_total (p, q) (p', q') with e | e | e
  · exact absurd e.symm (beq_eq_false_iff_ne.1 h2)
  · exact e
  · exact absurd (e.symm.trans h1) (by decide)
theorem SortOut.okR {l : List Tg} {w w' : World} {A : Option Addr} {n c : Nat} (h : sortErr l = 0 ∧ sortT l = srt l) (hr : RdT w' A n c (srt l)) (hn8 : n ≤ 8) (hb : Below w.heap.size w w') :
    SortOut l w (.returned (.tuple #[.slice A n c, .int .i64 0])) w' :=
  ⟨A, n, c, by rw [h.1], hn8, by rw [h.2]; exact hr, hb⟩
def Less (s : List Tg) (t : Tg) (j : Nat) : Prop := ∀ x ∈ s.take j, lt x t = true
theorem less_next {s : List Tg} {j : Nat} {p q p' q' : ByteArray} (h : Less s (p, q) j) (hg : s[j]? = some (p', q')) (h1 : Op.bytesLess p'.toList p.toList = true) : Less s (p, q) (j + 1) := by
  intro x hx
  rw [List.take_add_one, hg] at hx
  rcases List.mem_append.1 hx with hx | hx
  · exact h x hx
  · simp at hx; subst hx
    rw [Lib.toList_data, Lib.toList_data] at h1
    exact h1
/-- What the second loop keeps. -/
def RefAt (l : List Tg) (k : Nat) (w : World) (W : World) (v : Value) : Prop := OwnT W w.heap.size v (srt (l.take k)) ∧ Strict (srt (l.take k)) ∧ Below w.heap.size w W

end Go.Proofs.Ytfihaonpifoekaa
