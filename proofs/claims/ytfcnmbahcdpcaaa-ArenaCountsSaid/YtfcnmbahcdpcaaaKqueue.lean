/- Rows of any elements that begin anywhere in their block (q = q[1:] before q = append(q, x)): what they read as, append onto one. Conditions: none beyond those typed. -/
import Derived.Test.YtfcnmbahcdpcaaaKrow
import Derived.Test.YtfcnmbahcdpcaaaZcol
import Derived.ArgAppend
namespace Go.Proofs.Ytfcnmbahcdpcaaa
open Go.ChangeShapes Go.WideShapes Go.ChangeAt Go.RowKit
set_option linter.unusedVariables false
set_option linter.unusedSimpArgs false
set_option maxRecDepth 100000

theorem grown_setCells (b : Nat) : ∀ (vs : List Value) (o : Nat) (w : World), w.grownBy (w.setCells b o vs) (some b)
  | [], _, w => World.grownBy.refl _ _
  | v :: r, o, w => by
    have h := grown_setCells b r (o + 1) (w.setCell ⟨b, o, none⟩ v)
    have hs : (w.setCell ⟨b, o, none⟩ v).heap.size = w.heap.size := by simp [World.setCell]
    exact ⟨h.os, h.tape, h.output, by rw [← hs]; exact h.size, fun k hk hne => (h.block k (by rw [hs]; exact hk) hne).trans (Below.heap_setCell _ _ _ _ (fun e => hne (by rw [e])))⟩
section
variable {α : Type} {K : Kind α} {w w' : World} {v : Value} {l : List α}
/-- v is a row of the call's own from some place in its block on. -/
def OwnQ (K : Kind α) (w : World) (v : Value) (l : List α) : Prop :=
  (v = .slice none 0 0 ∧ l = []) ∨ ∃ g o c, v = .slice (some ⟨g, o, none⟩) l.length c ∧ g < w.heap.size ∧ RdG K w (some ⟨g, o, none⟩) l.length c l ∧ ∀ j, j < c * K.k → (w.cell? ⟨g, o + j, none⟩).isSome = true ∧ w.frozen? ⟨g, o + j, none⟩ = false
theorem OwnQ.nil (K : Kind α) (w : World) : OwnQ K w (.slice none 0 0) [] := .inl ⟨rfl, rfl⟩
theorem OwnQ.lt (h : OwnQ K w v l) : ∀ q, v.ownBlock = some q → q < w.heap.size := fun q hq => by
  rcases h with ⟨rfl, _⟩ | ⟨g, o, c, rfl, hg, _⟩
  · simp [Value.ownBlock] at hq
  · simp [Value.ownBlock] at hq; omega
theorem OwnQ.far (h : OwnQ K w v l) (hs : w.heap.size ≤ w'.heap.size) (hb : ∀ q, v.ownBlock = some q → w'.heap[q]? = w.heap[q]?) : OwnQ K w' v l := by
  rcases h with h | ⟨g, o, c, rfl, hg, hr, ht⟩
  · exact .inl h
  · have e := hb g rfl
    refine .inr ⟨g, o, c, rfl, Nat.lt_of_lt_of_le hg hs, hr.far (fun b o' hA _ => by injection hA with hA; injection hA with h1 h2; subst h1; exact e), fun j hj => ?_⟩
    rw [World.cell?_of_block (a := ⟨g, o + j, none⟩) e, World.frozen?_of_block (a := ⟨g, o + j, none⟩) e]
    exact ht j hj
theorem OwnQ.form (h : OwnQ K w v l) {n : Nat} (hn : l.length = n) : ∃ A c, v = .slice A n c ∧ RdG K w A n c l := by
  subst hn
  rcases h with ⟨rfl, rfl⟩ | ⟨g, o, c, rfl, hg, hr, ht⟩
  · exact ⟨none, 0, rfl, RdG.nil _ _ _ (Nat.zero_le _)⟩
  · exact ⟨_, c, rfl, hr⟩
theorem OwnK.toQ (h : OwnK K w v l) : OwnQ K w v l := by
  rcases h.2 with ⟨rfl, hn⟩ | ⟨g, cap, cur, rfl, _, hg, hnc, hcm, hcs, htake⟩
  · exact .inl ⟨rfl, List.eq_nil_of_length_eq_zero hn⟩
  · refine .inr ⟨g, 0, cap, rfl, (Array.getElem?_eq_some_iff.1 hg).1, OwnK.reads h, fun j hj => ?_⟩
    rw [Nat.zero_add]
    refine ⟨?_, by simp [World.frozen?, hg]⟩
    rw [cell_of_row w g j cur _ (0, 0) hg, Array.getElem?_eq_getElem (by omega)]
    rfl
/-- q[1:], as the model slices (at the end of the capacity the address stays). -/
theorem OwnQ.tail {x : α} {g o n c : Nat} (h : OwnQ K w (.slice (some ⟨g, o, none⟩) n c) (x :: l)) : n = l.length + 1 ∧ 1 ≤ c ∧ OwnQ K w (.slice (if c = 1 then some ⟨g, o, none⟩ else some ⟨g, o + 1 * K.k, none⟩) (n - 1) (c - 1)) l := by
  rcases h with ⟨h, _⟩ | ⟨g', o', c', h, hg, hr, ht⟩
  · cases h
  · injection h with h1 h2 h3
    injection h1 with h1
    injection h1 with h1 h4
    subst h1 h4 h2 h3
    have hcap := hr.cap
    simp only [List.length_cons] at hcap
    have hd := hr.dropIf (i := 1) (by simp)
    simp only [List.length_cons, List.drop_succ_cons, List.drop_zero, Nat.add_sub_cancel] at hd ⊢
    refine ⟨trivial, by omega, ?_⟩
    by_cases hc : c = 1
    · rw [if_pos hc] at hd ⊢
      exact .inr ⟨_, _, _, rfl, hg, hd, fun j hj => by rw [hc] at hj; simp at hj⟩
    · rw [if_neg hc] at hd ⊢
      refine .inr ⟨_, _, _, rfl, hg, hd, fun j hj => ?_⟩
      rw [Nat.add_assoc]
      refine ht _ ?_
      have : 1 * K.k + (c - 1) * K.k = c * K.k := by rw [← Nat.add_mul]; congr 1; omega
      omega
/-- append of elements that are read onto such a row: the run. -/
theorem run_appQ (ty : TypeId) (v : Value) (l : List α) (hown : OwnQ K w v l) (A : Option Addr) (m c : Nat) (xs : List α) (hr : RdG K w A m c xs) (hbytes : l.length + m ≤ 1000000000) :
    ∃ v' w', (Builtin.append_ #[K.sl, K.sl] ty #[v, .slice A m c]).run Try.prog w = .ok v' w' ∧ OwnQ K w' v' (l ++ xs) ∧ w.grownBy w' v.ownBlock ∧ (v'.ownBlock = v.ownBlock ∨ ∀ q, v'.ownBlock = some q → w.heap.size ≤ q) := by
  rcases hown with ⟨rfl, rfl⟩ | ⟨g, o, cap, rfl, hg, hrd, ht⟩
  · obtain ⟨v', w', h1, h2, h3, h4⟩ := run_appK ty _ [] (OwnK.nil K w) A m c xs hr hbytes
    exact ⟨v', w', h1, h2.toQ, h3, h4.imp id fun e q hq => by rw [e] at hq; injection hq with hq; omega⟩
  · obtain ⟨i0, hi0, hz0, hz1, hz2⟩ := info_parts K.info
    have hlen := hr.1
    have hcap := hrd.cap
    have hmax := hrd.max
    cases A with
    | none =>
      have hx : xs = [] := by
        cases xs with
        | nil => rfl
        | cons z q =>
          obtain ⟨b, o, h, _⟩ := hr.2.2.2 0 z (by simp)
          cases h
      subst hx
      simp at hlen
      subst hlen
      refine ⟨.slice (some ⟨g, o, none⟩) l.length cap, w, ?_, by rw [List.append_nil]; exact .inr ⟨g, o, cap, rfl, hg, hrd, ht⟩, World.grownBy.refl _ _, .inl rfl⟩
      simp [Builtin.append_, run_underlying K.under, sizeOf, typeInfo, hi0, Builtin.lenOf, Builtin.firstCells, hcap, storeCells]
    | some ad =>
      have hcells : ∀ j u, (cellsK K xs)[j]? = some u → w.cell? (ad.add j) = some u := by
        intro j u hu
        obtain ⟨q, a, i, h1, rfl, h3, h4⟩ := cellsK_get hu
        obtain ⟨b, o, h, hc⟩ := hr.2.2.2 q a h1
        obtain rfl := Option.some.inj h
        rw [Addr.add_lit, ← Nat.add_assoc]
        exact hc i u h4
      have holds : ∀ j u, (cellsK K l)[j]? = some u → w.cell? ((⟨g, o, none⟩ : Addr).add j) = some u := by
        intro j u hu
        obtain ⟨q, a, i, h1, rfl, h3, h4⟩ := cellsK_get hu
        obtain ⟨b, o', h, hc⟩ := hrd.2.2.2 q a h1
        injection h with h; injection h with h5 h6; subst h5 h6
        rw [Addr.add_lit, ← Nat.add_assoc]
        exact hc i u h4
      have hsm : (l.length + m) * K.by_ ≤ 1000000000 * 100000 := Nat.mul_le_mul hbytes K.small
      have hxl : (cellsK K xs).length = m * K.k := by rw [cellsK_length, hlen]
      by_cases hroom : l.length + m ≤ cap
      · have hmk : l.length * K.k + m * K.k ≤ cap * K.k := by rw [← Nat.add_mul]; exact Nat.mul_le_mul_right _ hroom
        have hrun := run_append_room_cells (P := Try.prog) w K.sl ty K.ty i0 K.under hi0 g o l.length cap ad m c (cellsK K xs) (by rw [hz1]; exact hxl) hcells (fun u hu => cellsK_mem hu) hroom
          (fun j hj => by rw [hz1, Nat.add_assoc]; exact (ht _ (by omega)).1) (fun j hj => by rw [hz1, Nat.add_assoc]; exact (ht _ (by omega)).2)
        rw [hz1] at hrun
        have hG := grown_setCells g (cellsK K xs) (o + l.length * K.k) w
        have hin := fun j hj => World.cell?_setCells_in g (cellsK K xs) (o + l.length * K.k) w (fun j hj => by rw [Nat.add_assoc]; exact (ht _ (by omega)).1) j hj
        have hout := fun (q : Nat) (hq : q < o + l.length * K.k ∨ o + l.length * K.k + (cellsK K xs).length ≤ q) => World.cell?_setCells_out g (cellsK K xs) (o + l.length * K.k) w ⟨g, q, none⟩ (fun _ _ => hq)
        refine ⟨_, _, hrun, .inr ⟨g, o, cap, by rw [List.length_append, hlen], Nat.lt_of_lt_of_le hg hG.size, ⟨rfl, by rw [List.length_append, hlen]; exact hroom, hmax, fun j a ha => ⟨g, o, rfl, fun i u hu => ?_⟩⟩, fun j hj => ?_⟩, hG, .inl rfl⟩
        · have hik : i < K.k := by rw [← K.len a]; exact (List.getElem?_eq_some_iff.1 hu).1
          by_cases hj : j < l.length
          · rw [List.getElem?_append_left hj] at ha
            have hjk : j * K.k + K.k ≤ l.length * K.k := by rw [← Nat.succ_mul]; exact Nat.mul_le_mul_right _ hj
            rw [hout _ (.inl (by omega))]
            obtain ⟨b, o', h, hc⟩ := hrd.2.2.2 j a ha
            injection h with h; injection h with h5 h6; subst h5 h6
            exact hc i u hu
          · rw [List.getElem?_append_right (by omega)] at ha
            have h1 := cellsK_at (K := K) ha hik
            rw [hu] at h1
            obtain ⟨h2, h3⟩ := List.getElem?_eq_some_iff.1 h1
            have h4 := hin _ h2
            rw [h3] at h4
            have hjk : l.length * K.k + (j - l.length) * K.k = j * K.k := by rw [← Nat.add_mul]; congr 1; omega
            rw [show o + j * K.k + i = o + l.length * K.k + ((j - l.length) * K.k + i) by omega]
            exact h4
        · rw [World.frozen?_setCells]
          refine ⟨?_, (ht j hj).2⟩
          by_cases h1 : l.length * K.k ≤ j ∧ j < l.length * K.k + (cellsK K xs).length
          · have h4 := hin (j - l.length * K.k) (by omega)
            rw [show o + l.length * K.k + (j - l.length * K.k) = o + j by omega] at h4
            rw [h4]; rfl
          · rw [hout _ (by omega)]; exact (ht j hj).1
      · obtain ⟨v', w', hrun, h2, h3⟩ := run_append_arg_grows (P := Try.prog) w K.sl ty K.ty i0 K.zero K.k K.by_ K.under hi0 hz0 hz1 hz2 K.zk K.pos ⟨g, o, none⟩ l.length cap (cellsK K l) (cellsK_length l) holds ad m c (cellsK K xs) hxl hcells (by omega) (by simp only [maxLen]; omega) (by omega)
        have h5 : OwnK K w' v' (l ++ xs) := by
          have h6 : w'.ownsRow 0 K.ty K.k v' (l.length + m) (cellsK K l ++ cellsK K xs) := ⟨h2.1, h2.2.imp id fun ⟨g, cap, cur, h7, h8, h9⟩ => ⟨g, cap, cur, h7, Nat.zero_le _, h9⟩⟩
          unfold OwnK
          rw [cellsK_append, List.length_append, hlen]
          exact h6
        refine ⟨v', w', hrun, h5.toQ, ⟨h3.os, h3.tape, h3.output, h3.size, fun k hk hne => h3.block k hk (by simp)⟩, ?_⟩
        rcases h2.2 with ⟨h7, h8⟩ | ⟨g2, cap2, cur2, rfl, h8, h9, h10⟩
        · omega
        · exact .inr fun q hq => by simp [Value.ownBlock] at hq; omega
theorem wpList_appQ (K : Kind α) {ops : Array Oper} {rest : List Oper} {o : Oper} {a : Act} {Q : Exit → Act → World → Prop} (hgd : o.guard = none) (s x : Operand)
    (ho : o.op = .call { callee := .builtin .append, args := #[s, x], argTypes := #[K.sl, K.sl] })
    (v : Value) (l : List α) (hs : a.eval s = v) (A : Option Addr) (m c : Nat) (xs : List α) (hx : a.eval x = .slice A m c)
    (hown : OwnQ K w v l) (hr : RdG K w A m c xs) (hbytes : l.length + m ≤ 1000000000)
    (h : ∀ v' w', OwnQ K w' v' (l ++ xs) → w.grownBy w' v.ownBlock → (v'.ownBlock = v.ownBlock ∨ ∀ q, v'.ownBlock = some q → w.heap.size ≤ q) → wpList Try.prog ops Q rest (a.put o.dst v') w') :
    wpList Try.prog ops Q (o :: rest) a w :=
  wpList_plain hgd fun Kk hK => by
    obtain ⟨v', w', hr, h2, h3, h4⟩ := run_appQ o.type v l hown A m c xs hr hbytes
    unfold Oper.wp execOp
    simp only [ho, resolve, invoke, builtin, Sem.run_bind, Sem.run_pure, Result.andThen_ok, List.map_toArray, List.map_cons, List.map_nil, hs, hx, hr]
    exact hK _ _ (h v' w' h2 h3 h4)
/-- Such a row, of a colour. -/
structure OwnQc (K : Kind α) (col : Col) (w : World) (c : Nat) (v : Value) (l : List α) : Prop where
  own : OwnQ K w v l
  col : HasCol col v c
theorem OwnQc.keep {P : Nat → Prop} {col col' : Col} {c : Nat} (h : OwnQc K col w c v l) (hs : StepC P col w col' w') (hp : ¬ P c) : OwnQc K col' w' c v l :=
  ⟨h.own.far hs.size fun q hq => hs.block q (h.own.lt q hq) (by rw [h.col q hq]; exact hp), h.col.step hs h.own.lt⟩
theorem StepC.appQ {P : Nat → Prop} {col : Col} {c : Nat} {v' : Value} (ht : Tidy col w) (hg : w.grownBy w' v.ownBlock) (hc : HasCol col v c) (hP : P c) (hv : v'.ownBlock = v.ownBlock ∨ ∀ q, v'.ownBlock = some q → w.heap.size ≤ q) (hl : ∀ q, v'.ownBlock = some q → q < w'.heap.size) :
    StepC P col w (dye col v'.ownBlock c) w' :=
  (StepC.grownBy ht hg fun q hq => by rw [hc q hq]; exact hP).dyed ht (fun b hb e => by
    rcases hv with hv | hv
    · exact hc b (hv.symm.trans e)
    · have := hv b e; omega) hl
theorem OwnQc.mk' {col : Col} {c : Nat} (ho : OwnQ K w v l) : OwnQc K (dye col v.ownBlock c) w c v l := ⟨ho, HasCol.dye v c⟩
end
end Go.Proofs.Ytfcnmbahcdpcaaa
