/- slices.Delete of one entry of a row of the call's own. Conditions: none beyond those typed. -/
import Derived.Test.YtjkomnjkolggnaaSvref
import Derived.Test.YtjkomnjkolggnaaKgrow
import Derived.Lib.SliceRun
import Derived.Deep.RegionLaw
namespace Go.Proofs.Ytjkomnjkolggnaa
open Go.ChangeShapes Go.WideShapes Go.ChangeAt Go.RowKit
set_option linter.unusedVariables false
set_option linter.unusedSimpArgs false
set_option maxRecDepth 100000

section
variable {α : Type} {K : Kind α} {w : World} {g n c k : Nat} {l xs : List α}
theorem setRow_heapK (w : World) {g : Nat} {cur cs : Array Value} {t : TypeId} (hg : w.heap[g]? = some (.cells cur t (0, 0))) : (w.setRow g cs).heap[g]? = some (.cells cs t (0, 0)) := by
  simp [World.setRow, Array.getElem?_modify, hg]
theorem setRow_grownK (w : World) (g : Nat) (cs : Array Value) : w.grownBy (w.setRow g cs) (some g) :=
  ⟨rfl, rfl, rfl, by simp [World.setRow], fun k hk hne => setRow_other w g k cs (fun e => hne (by rw [e]))⟩
/-- A row's head is a row. -/
theorem OwnK.headK (h : OwnK K w (.slice (some ⟨g, 0, none⟩) n c) l) (hk : k ≤ n) : OwnK K w (.slice (some ⟨g, 0, none⟩) k c) (l.take k) := by
  have hl := h.len
  rcases h.2 with ⟨e, _⟩ | ⟨g', cap, cur, e, hb, hg, hnc, hcm, hcs, ht⟩
  · cases e
  · injection e with e1 e2 e3
    injection e1 with e1; injection e1 with e1
    subst e1 e3
    have hlk : (l.take k).length = k := by rw [List.length_take]; omega
    refine ⟨by rw [cellsK_length], .inr ⟨g, c, cur, by rw [hlk], hb, hg, by rw [hlk]; omega, hcm, hcs, ?_⟩⟩
    rw [hlk]
    have e : l = l.take k ++ l.drop k := (List.take_append_drop k l).symm
    have h1 : cellsK K l = cellsK K (l.take k) ++ cellsK K (l.drop k) := by rw [← cellsK_append, ← e]
    have h2 : cur.toList.take (k * K.k) = (cur.toList.take (l.length * K.k)).take (k * K.k) := by
      rw [List.take_take, Nat.min_eq_left (Nat.mul_le_mul_right _ (by omega))]
    rw [h2, ht, h1, List.take_left' (by rw [cellsK_length, hlk])]
/-- append in place. -/
theorem run_appK_room (ty : TypeId) (hown : OwnK K w (.slice (some ⟨g, 0, none⟩) n c) l) (ad : Addr) (m c' : Nat) (hr : RdG K w (some ad) m c' xs) (hroom : n + m ≤ c) :
    ∃ w', (Builtin.append_ #[K.sl, K.sl] ty #[.slice (some ⟨g, 0, none⟩) n c, .slice (some ad) m c']).run Try.prog w = .ok (.slice (some ⟨g, 0, none⟩) (n + m) c) w' ∧ OwnK K w' (.slice (some ⟨g, 0, none⟩) (n + m) c) (l ++ xs) ∧ w.grownBy w' (some g) := by
  obtain ⟨i0, hi0, hz0, hz1, hz2⟩ := info_parts K.info
  have hlen := hr.1
  have hl := hown.len
  have hcells : ∀ j u, (cellsK K xs)[j]? = some u → w.cell? (ad.add j) = some u := by
    intro j u hu
    obtain ⟨q, a, i, h1, rfl, h3, h4⟩ := cellsK_get hu
    obtain ⟨b, o, h, hc⟩ := hr.2.2.2 q a h1
    obtain rfl := Option.some.inj h
    rw [Addr.add_lit, ← Nat.add_assoc]
    exact hc i u h4
  rcases hown.2 with ⟨e, _⟩ | ⟨g', cap, cur, e, hb, hg, hnc, hcm, hcs, ht⟩
  · cases e
  · injection e with e1 e2 e3
    injection e1 with e1; injection e1 with e1
    subst e1 e3
    have hx : (cellsK K xs).length = m * K.k := by rw [cellsK_length, hlen]
    have hfit : n * K.k + (cellsK K xs).length ≤ cur.size := by
      rw [hx, hcs, ← Nat.add_mul]; exact Nat.mul_le_mul_right _ hroom
    have hrun := run_append_room (P := Try.prog) w K.sl ty K.ty i0 K.under hi0 g n c cur hg ad m c' (cellsK K xs) (by rw [hz1]; exact hx) hcells (fun u hu => cellsK_mem hu) hroom (by rw [hz1]; exact hfit)
    rw [hz1] at hrun
    refine ⟨_, hrun, ?_, setRow_grownK _ _ _⟩
    have hll : (l ++ xs).length = n + m := by rw [List.length_append, hl, hlen]
    refine ⟨by rw [cellsK_length], .inr ⟨g, c, _, by rw [hll], hb, setRow_heapK _ hg, by rw [hll]; exact hroom, hcm, ?_, ?_⟩⟩
    · simp only [List.size_toArray, List.length_append, List.length_take, List.length_drop, Array.length_toList]
      rw [hcs] at hfit ⊢
      omega
    · rw [hll, List.toList_toArray, cellsK_append]
      have h3 : cur.toList.take (n * K.k) = cellsK K l := by rw [← ht, hl]
      rw [h3]
      exact List.take_left' (by rw [List.length_append, cellsK_length, hx, hl, Nat.add_mul])
/-- clear of the one element behind a row. -/
theorem run_clearK (ty : TypeId) (hown : OwnK K w (.slice (some ⟨g, 0, none⟩) n c) l) (c' : Nat) (hroom : n + 1 ≤ c) (hv : ∀ w, (zeroValue K.ty).run Try.prog w = .ok K.zero w) (hz1 : ∀ v ∈ (Builtin.zeroCells K.zero.cells 1).toList, v.oneCell' = true) (hzl : (Builtin.zeroCells K.zero.cells 1).toList.length = K.k) :
    ∃ w', (Builtin.clear_ #[K.sl] ty #[.slice (some ⟨g, n * K.k, none⟩) 1 c']).run Try.prog w = .ok (.tuple #[]) w' ∧ OwnK K w' (.slice (some ⟨g, 0, none⟩) n c) l ∧ w.grownBy w' (some g) := by
  have hl := hown.len
  rcases hown.2 with ⟨e, _⟩ | ⟨g', cap, cur, e, hb, hg, hnc, hcm, hcs, ht⟩
  · cases e
  · injection e with e1 e2 e3
    injection e1 with e1; injection e1 with e1
    subst e1 e3
    have hfit : n * K.k + 0 + (Builtin.zeroCells K.zero.cells 1).toList.length ≤ cur.size := by
      rw [hzl, hcs, Nat.add_zero]
      have := Nat.mul_le_mul_right K.k hroom
      rw [Nat.add_mul, Nat.one_mul] at this
      exact this
    have hst := run_storeCells_at Try.prog g (n * K.k) K.ty (Builtin.zeroCells K.zero.cells 1).toList 0 cur w hg hfit hz1
    have hrun : (Builtin.clear_ #[K.sl] ty #[.slice (some ⟨g, n * K.k, none⟩) 1 c']).run Try.prog w = .ok (.tuple #[]) (w.setRow g (cur.toList.take (n * K.k + 0) ++ (Builtin.zeroCells K.zero.cells 1).toList ++ cur.toList.drop (n * K.k + 0 + (Builtin.zeroCells K.zero.cells 1).toList.length)).toArray) := by
      simp only [Builtin.clear_, List.getElem?_toArray, List.getElem?_cons_zero]
      simp [run_underlying K.under, hv]
      rw [hst]
      simp
    refine ⟨_, hrun, ?_, setRow_grownK _ _ _⟩
    generalize (Builtin.zeroCells K.zero.cells 1).toList = zs at *
    refine ⟨by rw [cellsK_length], .inr ⟨g, c, _, by rw [hl], hb, setRow_heapK _ hg, by rw [hl]; omega, hcm, ?_, ?_⟩⟩
    · simp only [List.size_toArray, List.length_append, List.length_take, List.length_drop, Array.length_toList]
      rw [hcs] at hfit ⊢
      omega
    · rw [hl, List.toList_toArray, Nat.add_zero, List.append_assoc]
      have h3 : cur.toList.take (n * K.k) = cellsK K l := by rw [← ht, hl]
      rw [h3]
      exact List.take_left' (by rw [cellsK_length, hl])
theorem step_appR (K : Kind α) {ops : Array Oper} {o : Oper} {a : Act} {Kk : Act → World → Prop} {Q : Exit → Act → World → Prop} {E : Prop} (hgd : o.guard = none) (s x : Operand)
    (ho : o.op = .call { callee := .builtin .append, args := #[s, x], argTypes := #[K.sl, K.sl] })
    (g n c : Nat) (l : List α) (hs : a.eval s = .slice (some ⟨g, 0, none⟩) n c) (ad : Addr) (m c' : Nat) (xs : List α) (hx : a.eval x = .slice (some ad) m c')
    (hown : OwnK K w (.slice (some ⟨g, 0, none⟩) n c) l) (hr : RdG K w (some ad) m c' xs) (N : Nat) (hN : n + m = N) (hroom : N ≤ c)
    (h : ∀ w', OwnK K w' (.slice (some ⟨g, 0, none⟩) N c) (l ++ xs) → w.grownBy w' (some g) → Kk (a.put o.dst (.slice (some ⟨g, 0, none⟩) N c)) w') :
    if Region.wanted o (yielded ops a.tmps) = true then Oper.wp Try.prog o a w Kk Q else E := by
  subst hN
  have hw : Region.wanted o (yielded ops a.tmps) = true := by simp [Region.wanted, hgd]
  rw [if_pos hw]
  obtain ⟨w', hrun, h2, h3⟩ := run_appK_room o.type hown ad m c' hr hroom
  unfold Oper.wp execOp
  simp only [ho, resolve, invoke, builtin, Sem.run_bind, Sem.run_pure, Result.andThen_ok, List.map_toArray, List.map_cons, List.map_nil, hs, hx, hrun]
  exact h w' h2 h3
theorem wpList_clearK (K : Kind α) {ops : Array Oper} {rest : List Oper} {o : Oper} {a : Act} {Q : Exit → Act → World → Prop} (hgd : o.guard = none) (s : Operand)
    (ho : o.op = .call { callee := .builtin .clear, args := #[s], argTypes := #[K.sl] })
    (g n c c' : Nat) (l : List α) (hs : a.eval s = .slice (some ⟨g, n * K.k, none⟩) 1 c')
    (hown : OwnK K w (.slice (some ⟨g, 0, none⟩) n c) l) (hroom : n + 1 ≤ c) (hv : ∀ w, (zeroValue K.ty).run Try.prog w = .ok K.zero w) (hz1 : ∀ v ∈ (Builtin.zeroCells K.zero.cells 1).toList, v.oneCell' = true) (hzl : (Builtin.zeroCells K.zero.cells 1).toList.length = K.k)
    (h : ∀ w', OwnK K w' (.slice (some ⟨g, 0, none⟩) n c) l → w.grownBy w' (some g) → wpList Try.prog ops Q rest (a.put o.dst (.tuple #[])) w') :
    wpList Try.prog ops Q (o :: rest) a w :=
  wpList_plain hgd fun Kk hK => by
    obtain ⟨w', hrun, h2, h3⟩ := run_clearK o.type hown c' hroom hv hz1 hzl
    unfold Oper.wp execOp
    simp only [ho, resolve, invoke, builtin, Sem.run_bind, Sem.run_pure, Result.andThen_ok, List.map_toArray, List.map_cons, List.map_nil, hs, hrun]
    exact hK _ _ (h w' h2 h3)
end
/-- One entry is taken out of a row. -/
def DelOut (w : World) (g n c i : Nat) (l : List En) (e : Ending) (w' : World) : Prop := e = .returned (.slice (some ⟨g, 0, none⟩) (n - 1) c) ∧ OwnK kEn w' (.slice (some ⟨g, 0, none⟩) (n - 1) c) (l.take i ++ l.drop (i + 1)) ∧ w.grownBy w' (some g)
set_option maxHeartbeats 2000000 in
theorem delete_any {w : World} {g n c i : Nat} {l : List En} (hO : OwnK kEn w (.slice (some ⟨g, 0, none⟩) n c) l) (hi : i < n) :
    Calls Try.prog 28 #[.slice (some ⟨g, 0, none⟩) n c, .int .i64 (i : Int), .int .i64 ((i + 1 : Nat) : Int)] w (DelOut w g n c i l) := by
  have hrd := hO.reads
  have hcap := hrd.cap
  have hmax := hrd.max
  have hR : RdG kEn w.drew (if c = i + 1 then (some ⟨g, 0, none⟩ : Option Addr) else some ⟨g, 0 + (i + 1) * 3, none⟩) (n - (i + 1)) (c - (i + 1)) (l.drop (i + 1)) := hrd.dropIf (by omega)
  have hH := (hO.headK (k := i) (by omega)).drewN 1
  obtain ⟨AD, hAD, hR2⟩ : ∃ AD, (if c = i + 1 then (some ⟨g, 0, none⟩ : Option Addr) else some ⟨g, (i + 1) * 3, none⟩) = some AD ∧ RdG kEn w.drew (some AD) (n - (i + 1)) (c - (i + 1)) (l.drop (i + 1)) := by
    rw [Nat.zero_add] at hR
    by_cases hc : c = i + 1
    · rw [if_pos hc] at hR ⊢; exact ⟨_, rfl, hR⟩
    · rw [if_neg hc] at hR ⊢; exact ⟨_, rfl, hR⟩
  obtain ⟨N, hN⟩ : ∃ N, n - 1 = N := ⟨_, rfl⟩
  have hN1 : i + (n - (i + 1)) = N := by omega
  have hroom : N ≤ c := by omega
  have hNn : n - N = 1 := by omega
  have hcN : ¬ c = N := by omega
  have hv : ∀ w, (zeroValue kEn.ty).run Try.prog w = .ok kEn.zero w := fun w => by kernel_rfl
  have hne : ((i : Int) == ((i + 1 : Nat) : Int)) = false := beq_false_of_ne (by omega)
  obtain ⟨I, hI⟩ : ∃ I, i + 1 = I := ⟨_, rfl⟩
  rw [hI] at hAD hR2 hN1 hne ⊢
  have h1 : (i : Int) ≤ (I : Int) := by omega
  have h2 : (I : Int) ≤ (n : Int) := by omega
  have h3 : (n : Int) ≤ (c : Int) := by omega
  have h4 : (i : Int) ≤ (c : Int) := by omega
  have h5 : (N : Int) ≤ (n : Int) := by omega
  have hFin := Lib.hid (show ∀ w', OwnK kEn w' (.slice (some ⟨g, 0, none⟩) N c) (l.take i ++ l.drop I) → w.grownBy w' (some g) → DelOut w g n c i l (.returned (.slice (some ⟨g, 0, none⟩) N c)) w' from fun w' h1 h2 => ⟨by rw [hN], by rw [hN, hI]; exact h1, h2⟩)
  clear hR hrd hO hN hI
  go_enter Try.func28, Try.ntmps28
  go_wp2_with fail
  go_region_law (refine step_appR kEn rfl (.tmp 22) (.tmp 25) rfl g i c _ rfl AD (n - I) (c - I) _ rfl hH hR2 N hN1 hroom ?_; intro w5 O5 G5)
  all_goals
    go_wp2_with fail
    obtain ⟨w6, hr6, O6, G6⟩ := run_clearK 0 O5 (c - N) (by omega) hv (fun v h => List.all_eq_true.mp (show (Builtin.zeroCells kEn.zero.cells 1).toList.all Value.oneCell' = true by kernel_rfl) v h) (by kernel_rfl)
    have hr7 : Sem.run Try.prog (Builtin.clear_ #[39] 0 #[.slice (some ⟨g, N * 3, none⟩) 1 (c - N)]) w5 = .ok (.tuple #[]) w6 := hr6
    rw [hr7]
    have G := World.grownBy.trans (show w.grownBy w5 (some g) from ⟨G5.os, G5.tape, G5.output, G5.size, G5.block⟩) G6
    have F := hFin.out w6 O6 G
    go_wp2
    go_ret
    exact F
end Go.Proofs.Ytjkomnjkolggnaa
