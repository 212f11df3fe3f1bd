/- slices.Insert of one entry into a row of the call's own. Conditions: none beyond those typed. -/
import Derived.Test.YtjkomnjkolggnaaXins
import Derived.Test.YtjkomnjkolggnaaKout
import Derived.Laws.CopyOwn
import Derived.Lib.Overlaps
import Derived.Lib.AppendZerosOnto
import Derived.Lib.JoinLaws
namespace Go.Proofs.Ytjkomnjkolggnaa
open Go.ChangeShapes Go.WideShapes Go.ChangeAt Go.RowKit
set_option linter.unusedVariables false
set_option linter.unusedSimpArgs false
set_option maxRecDepth 100000

section
variable {P : Program}
theorem run_copy_rowK (w : World) (dT sT ty elem : TypeId) (k g o dLen dCap : Nat) (a : Addr) (sLen sCap : Nat) (cur : Array Value) (t : TypeId) (cs : List Value)
    (hu : P.underlying dT = some (.slice elem)) (hs : (P.info? elem).map (·.size) = some k)
    (hg : w.heap[g]? = some (.cells cur t (0, 0))) (m : Nat) (hm : m = Nat.min sLen dLen) (hn : cs.length = m * k)
    (hsrc : ∀ j v, cs[j]? = some v → w.cell? (a.add j) = some v) (hfit : o + cs.length ≤ cur.size) (h1 : ∀ v ∈ cs, v.oneCell' = true) :
    (Builtin.copy_ #[dT, sT] ty #[.slice (some ⟨g, o, none⟩) dLen dCap, .slice (some a) sLen sCap]).run P w =
      .ok (goInt m) (w.setRow g (cur.toList.take o ++ (cs ++ cur.toList.drop (o + cs.length))).toArray) := by
  have hl := run_firstCells_some (P := P) w k m a sLen sCap cs hn hsrc
  have hst := run_storeCells_at P g o t cs 0 cur w hg (by simpa using hfit) h1
  cases hq : P.info? elem with
  | none => simp [hq] at hs
  | some i =>
    have hi : i.size = k := by simpa [hq] using hs
    simp [Builtin.copy_, run_underlying hu, Builtin.lenOf, sizeOf, typeInfo, hq, hi, ← hm, hl, hst]
theorem step_copy_ownK {ops : Array Oper} {o : Oper} {a : Act} {w : World} {K : Act → World → Prop} {Q : Exit → Act → World → Prop} {E : Prop} (hgd : o.guard = none) (d s : Operand) (dT sT : TypeId)
    (ho : o.op = .call { callee := .builtin .copy, args := #[d, s], argTypes := #[dT, sT] }) (elem : TypeId) (hu : P.underlying dT = some (.slice elem)) (k : Nat) (hsz : (P.info? elem).map (·.size) = some k)
    (g off dLen dCap : Nat) (ad : Addr) (sLen sCap : Nat) (hd : a.eval d = .slice (some ⟨g, off, none⟩) dLen dCap) (hs : a.eval s = .slice (some ad) sLen sCap)
    (cur : Array Value) (t : TypeId) (hg : w.heap[g]? = some (.cells cur t (0, 0))) (cs : List Value) (m : Nat) (hm : m = Nat.min sLen dLen) (hn : cs.length = m * k)
    (hsrc : ∀ j v, cs[j]? = some v → w.cell? (ad.add j) = some v) (hfit : off + cs.length ≤ cur.size) (h1 : ∀ v ∈ cs, v.oneCell' = true)
    (h : K (a.put o.dst (goInt m)) (w.setRow g (cur.toList.take off ++ (cs ++ cur.toList.drop (off + cs.length))).toArray)) :
    if Region.wanted o (yielded ops a.tmps) = true then Oper.wp P o a w K Q else E := by
  have hw : Region.wanted o (yielded ops a.tmps) = true := by simp [Region.wanted, hgd]
  rw [if_pos hw]
  have hrun := run_copy_rowK (P := P) w dT sT o.type elem k g off dLen dCap ad sLen sCap cur t cs hu hsz hg m hm hn hsrc hfit h1
  unfold Oper.wp
  simp [execOp, ho, resolve, invoke, builtin, hd, hs, hrun, Result.andThen]
  exact h
theorem wpList_copy_ownK {w : World} {ops : Array Oper} {rest : List Oper} {o : Oper} {a : Act} {Q : Exit → Act → World → Prop} (hgd : o.guard = none) (d s : Operand) (dT sT : TypeId)
    (ho : o.op = .call { callee := .builtin .copy, args := #[d, s], argTypes := #[dT, sT] }) (elem : TypeId) (hu : P.underlying dT = some (.slice elem)) (k : Nat) (hsz : (P.info? elem).map (·.size) = some k)
    (g off dLen dCap : Nat) (ad : Addr) (sLen sCap : Nat) (hd : a.eval d = .slice (some ⟨g, off, none⟩) dLen dCap) (hs : a.eval s = .slice (some ad) sLen sCap)
    (cur : Array Value) (t : TypeId) (hg : w.heap[g]? = some (.cells cur t (0, 0))) (cs : List Value) (m : Nat) (hm : m = Nat.min sLen dLen) (hn : cs.length = m * k)
    (hsrc : ∀ j v, cs[j]? = some v → w.cell? (ad.add j) = some v) (hfit : off + cs.length ≤ cur.size) (h1 : ∀ v ∈ cs, v.oneCell' = true)
    (h : wpList P ops Q rest (a.put o.dst (goInt m)) (w.setRow g (cur.toList.take off ++ (cs ++ cur.toList.drop (off + cs.length))).toArray)) : wpList P ops Q (o :: rest) a w := by
  refine wpList_plain hgd fun K hK => ?_
  have hrun := run_copy_rowK (P := P) w dT sT o.type elem k g off dLen dCap ad sLen sCap cur t cs hu hsz hg m hm hn hsrc hfit h1
  unfold Oper.wp
  simp [execOp, ho, resolve, invoke, builtin, hd, hs, hrun, Result.andThen]
  exact hK _ _ h
end
section
variable {w : World} {A : Option Addr} {n c : Nat} {l : List En}
theorem szE : (Try.prog.info? 32).map (·.size) = some 3 := by kernel_rfl
theorem cellsE_mid (l : List En) (i : Nat) (x : En) (hi : i ≤ l.length) : cellsK kEn (l.take i ++ x :: l.drop i) = (cellsK kEn l).take (i * 3) ++ (enE x ++ (cellsK kEn l).drop (i * 3)) := by
  have e : cellsK kEn l = cellsK kEn (l.take i) ++ cellsK kEn (l.drop i) := by rw [← cellsK_append, List.take_append_drop]
  have hl : (cellsK kEn (l.take i)).length = i * 3 := by rw [cellsK_length, List.length_take, Nat.min_eq_left hi]; rfl
  rw [cellsK_append, cellsK_cons, e, List.take_left' hl, List.drop_left' hl]; rfl
/-- Behind both copies. -/
theorem ins_takeE {L0 X C : List Value} {p q n N k : Nat} (hX : L0.take n = X) (hC : C.length = k) (hq : q = p + k) (hN : N = n + k) (hp : p ≤ n) (hn : N ≤ L0.length) :
    (((L0.take q ++ (X.drop p ++ L0.drop (q + (X.drop p).length))).take p ++ (C ++ (L0.take q ++ (X.drop p ++ L0.drop (q + (X.drop p).length))).drop (p + C.length))).take N) = X.take p ++ (C ++ X.drop p) := by
  subst hq hN
  have hl : X.length = n := by rw [← hX, List.length_take]; omega
  have e1 : (L0.take (p + k)).length = p + k := by rw [List.length_take]; omega
  have e2 : (L0.take (p + k)).take p = X.take p := by rw [List.take_take, ← hX, List.take_take, Nat.min_eq_left (by omega), Nat.min_eq_left hp]
  generalize hY : X.drop p ++ L0.drop (p + k + (X.drop p).length) = Y
  have h1 : (L0.take (p + k) ++ Y).take p = X.take p := by rw [List.take_append_of_le_length (by rw [e1]; omega), e2]
  have h2 : (L0.take (p + k) ++ Y).drop (p + C.length) = Y := List.drop_left' (by rw [e1, hC])
  rw [h1, h2, ← hY]
  have h3 : (X.take p).length = p := by rw [List.length_take, hl]; omega
  have h4 : X.take p ++ (C ++ (X.drop p ++ L0.drop (p + k + (X.drop p).length))) = (X.take p ++ (C ++ X.drop p)) ++ L0.drop (p + k + (X.drop p).length) := by simp
  rw [h4]
  exact List.take_left' (by rw [List.length_append, List.length_append, h3, List.length_drop, hl, hC]; omega)
theorem ins_take2E {Z X C : List Value} {p q n N k : Nat} (hX : X.length = n) (hZ : Z.take p = X.take p) (hC : C.length = k) (hq : q = p + k) (hN : N = n + k) (hp : p ≤ n) (hn : N ≤ Z.length) :
    ((((Z.take p ++ (C ++ Z.drop (p + C.length))).take q) ++ (X.drop p ++ (Z.take p ++ (C ++ Z.drop (p + C.length))).drop (q + (X.drop p).length))).take N) = X.take p ++ (C ++ X.drop p) := by
  subst hq hN
  have e1 : (Z.take p).length = p := by rw [List.length_take]; omega
  generalize hY : (Z.take p ++ (C ++ Z.drop (p + C.length))).drop (p + k + (X.drop p).length) = Y
  have h1 : (Z.take p ++ (C ++ Z.drop (p + C.length))).take (p + k) = Z.take p ++ C := by
    rw [← List.append_assoc]; exact List.take_left' (by rw [List.length_append, e1, hC])
  rw [h1, hZ]
  have h4 : X.take p ++ C ++ (X.drop p ++ Y) = (X.take p ++ (C ++ X.drop p)) ++ Y := by simp
  rw [h4]
  exact List.take_left' (by rw [List.length_append, List.length_append, List.length_take, List.length_drop, hX, hC]; omega)
set_option maxHeartbeats 2000000 in
theorem ins_endE {v : Value} (hO : OwnK kEn w v l) (hln : l.length = n) (hv : v = .slice A n c) (hn : n ≤ 1000000) {h : Nat} {x : En} (hr : RdG kEn w (some ⟨h, 0, none⟩) 1 1 [x]) :
    Calls Try.prog 32 #[.slice A n c, .int .i64 n, .slice (some ⟨h, 0, none⟩) 1 1] w fun e w' => ∃ v', e = .returned v' ∧ OwnK kEn w' v' ((l ++ [x])) ∧ w.grownBy w' v.ownBlock ∧ (v'.ownBlock = v.ownBlock ∨ v'.ownBlock = some w.heap.size) := by
  subst hv
  have hrd := hO.reads
  have hcap := hrd.cap
  have hmax := hrd.max
  have hby : l.length + 1 ≤ 1000000000 := by omega
  have hne : (n : Int) ≤ (c : Int) := by omega
  have hEmp : ∀ A', A = some A' → True := fun _ _ => trivial
  have HO := Lib.hid hO
  clear hrd hEmp
  by_cases h0 : A = none
  · subst h0
    have hn0 : n = 0 := by
      rcases hO.2 with ⟨e, _⟩ | ⟨g, cap, cur, e, _⟩
      · injection e with _ e _
      · cases e
    subst hn0
    go_enter Try.func32, Try.ntmps32
    go_wp2_with (at_builtin; refine wpList_appK kEn rfl (.tmp 23) (.tmp 24) rfl _ l rfl _ 1 1 [x] rfl hO hr hby ?_; intro v7 w7 O7 G7 hat7)
    go_ret
    skip
    exact ⟨_, rfl, O7, G7, hat7⟩
  · obtain ⟨g, rfl⟩ : ∃ g, A = some ⟨g, 0, none⟩ := by
      rcases hO.2 with ⟨e, _⟩ | ⟨g, cap, cur, e, _⟩
      · injection e with e _ _; exact absurd e h0
      · injection e with e _ _; exact ⟨g, e⟩
    clear h0
    by_cases hnc : c = n
    · subst hnc
      go_enter Try.func32, Try.ntmps32
      go_wp2_with (at_builtin; refine wpList_appK kEn rfl (.tmp 23) (.tmp 24) rfl _ l rfl _ 1 1 [x] rfl hO hr hby ?_; intro v7 w7 O7 G7 hat7)
      go_ret
      skip
      exact ⟨_, rfl, O7, G7, hat7⟩
    · go_enter Try.func32, Try.ntmps32
      go_wp2_with (at_builtin; refine wpList_appK kEn rfl (.tmp 23) (.tmp 24) rfl _ l rfl _ 1 1 [x] rfl hO hr hby ?_; intro v7 w7 O7 G7 hat7)
      go_ret
      skip
      exact ⟨_, rfl, O7, G7, hat7⟩
set_option maxHeartbeats 2000000 in
theorem ins_roomE {g : Nat} (hO : OwnK kEn w (.slice (some ⟨g, 0, none⟩) n c) l) (hln : l.length = n) (hn : n ≤ 1000000) {i : Nat} (hi : i < n) (hroom : n + 1 ≤ c) {h : Nat} {x : En} (hx : w.heap[h]? = some (.cells (VE x) 32 (0, 0))) (hh : h ≠ g) :
    Calls Try.prog 32 #[.slice (some ⟨g, 0, none⟩) n c, .int .i64 i, .slice (some ⟨h, 0, none⟩) 1 1] w fun e w' => e = .returned (.slice (some ⟨g, 0, none⟩) (n + 1) c) ∧ OwnK kEn w' (.slice (some ⟨g, 0, none⟩) (n + 1) c) ((l.take i ++ x :: l.drop i)) ∧ w.grownBy w' (some g) := by
  have hcap := hO.reads.cap
  have hmax := hO.reads.max
  obtain ⟨hcl, ⟨e, _⟩ | ⟨g', cap, cur, e, hbg, hg, hnc, hcm, hcs, htake⟩⟩ := hO
  · cases e
  injection e with e1 e2 e3
  injection e1 with e1
  injection e1 with e1
  subst e1 e3
  clear e2
  have hcs : cur.size = c * 3 := hcs
  have htake : cur.toList.take (n * 3) = cellsK kEn l := by rw [← htake, hln]; rfl
  have hXl : (cellsK kEn l).length = n * 3 := by rw [cellsK_length, hln]; rfl
  have hov : ∀ lb cb, (callFunc 44 #[.slice (some ⟨h, 0, none⟩) 1 1, .slice (some ⟨g, (i + 1) * 3, none⟩) lb cb]).run Try.prog w = .ok (.value (.bool false)) w := fun lb cb => by
    rw [run_callFunc_extern Try.func44 (by kernel_rfl) (by kernel_rfl) (by kernel_rfl) (e := Extern.SlicesOverlaps.overlaps #[39, 39] #[4]) (by kernel_rfl),
      Lib.run_overlaps_apart w 39 4 32 Try.underlying39 3 (by intro w; kernel_rfl) ⟨h, 0, none⟩ ⟨g, (i + 1) * 3, none⟩ 1 1 _ _ hh 32 32 3 (c * 3) (by simp [World.shape?, hx]) (by simp [World.shape?, hg, hcs]; rfl) (by omega) (by simp [World.frozen?, hx]) (by simp [World.frozen?, hx])]
    rfl
  have hget : ∀ j v, (cellsK kEn l)[j]? = some v → cur[j]? = some v := fun j v hj => by
    rw [← htake, List.getElem?_take] at hj
    split at hj
    · simpa using hj
    · cases hj
  have hdl : ((cellsK kEn l).drop (i * 3)).length = (n - i) * 3 := by rw [List.length_drop, hXl, Nat.sub_mul]
  have hsrc1 : ∀ j v, ((cellsK kEn l).drop (i * 3))[j]? = some v → w.drew.cell? ((⟨g, i * 3, none⟩ : Addr).add j) = some v := fun j v hj => by
    rw [List.getElem?_drop] at hj
    have h2 := hget _ _ hj
    show w.cell? ((⟨g, i * 3, none⟩ : Addr).add j) = some v
    rw [Addr.add_lit, Lib.cell_of_heap hg]; exact h2
  have hone : ∀ v ∈ (cellsK kEn l).drop (i * 3), v.oneCell' = true := fun v hv => cellsK_mem (List.mem_of_mem_drop hv)
  have hm1 : n - i = Nat.min (n + 1 - i) (n - i) := by simp only [Nat.min_def]; split <;> omega
  have hn1 : ((cellsK kEn l).drop (i * 3)).length = (n - i) * 3 := hdl
  have hfit1 : (i + 1) * 3 + ((cellsK kEn l).drop (i * 3)).length ≤ cur.size := by rw [hdl, hcs]; omega
  generalize hC1 : (cellsK kEn l).drop (i * 3) = C1 at *
  obtain ⟨cur1, hcur1⟩ : ∃ cur1, cur1 = (cur.toList.take ((i + 1) * 3) ++ (C1 ++ cur.toList.drop ((i + 1) * 3 + C1.length))).toArray := ⟨_, rfl⟩
  have hg1 : (w.drew.setRow g cur1).heap[g]? = some (.cells cur1 32 (0, 0)) := setRow_heapK w.drew hg
  have hx1 : (w.drew.setRow g cur1).heap[h]? = some (.cells (VE x) 32 (0, 0)) := (setRow_other w.drew g h cur1 hh).trans hx
  have hC1l : C1.length = (n - i) * 3 := hdl
  have hsz1 : cur1.size = c * 3 := by rw [hcur1]; simp; omega
  have hsrc2 : ∀ j v, (enE x)[j]? = some v → (w.drew.setRow g cur1).cell? ((⟨h, 0, none⟩ : Addr).add j) = some v := fun j v hj => by
    rw [Addr.add_lit, Lib.cell_of_heap hx1, Nat.zero_add]; simpa [enE] using hj
  have hm2 : 1 = Nat.min 1 (n + 1 - i) := by simp only [Nat.min_def]; split <;> omega
  have hn2 : (enE x).length = 1 * 3 := rfl
  have hfit2 : i * 3 + (enE x).length ≤ cur1.size := by rw [hsz1]; show i * 3 + 3 ≤ _; omega
  have hone2 : ∀ v ∈ (enE x), v.oneCell' = true := fun v hv => kEn.one x v hv
  have hfin : OwnK kEn ((w.drew.setRow g cur1).setRow g (cur1.toList.take (i * 3) ++ (enE x ++ cur1.toList.drop (i * 3 + (enE x).length))).toArray) (.slice (some ⟨g, 0, none⟩) (n + 1) c) ((l.take i ++ x :: l.drop i)) := by
    have hll : (l.take i ++ x :: l.drop i).length = n + 1 := by simp; omega
    refine ⟨by rw [cellsK_length], .inr ⟨g, c, _, by rw [hll], Nat.zero_le _, setRow_heapK _ hg1, by rw [hll]; exact hroom, hcm, ?_, ?_⟩⟩
    · have : (enE x).length = 3 := rfl
      show _ = c * 3
      simp [hsz1]; omega
    · rw [hll, cellsE_mid l i x (by omega), List.toList_toArray, hcur1, List.toList_toArray]
      have := ins_takeE (L0 := cur.toList) (C := enE x) (p := i * 3) (q := (i + 1) * 3) (N := (n + 1) * 3) (k := 3) htake rfl (by omega) (by omega) (by omega) (by rw [Array.length_toList, hcs]; omega)
      rw [hC1] at this ⊢
      exact this
  have hgr : w.grownBy ((w.drew.setRow g cur1).setRow g (cur1.toList.take (i * 3) ++ (enE x ++ cur1.toList.drop (i * 3 + (enE x).length))).toArray) (some g) := by
    have h1 := setRow_grownK w.drew g cur1
    have h2 := setRow_grownK (w.drew.setRow g cur1) g (cur1.toList.take (i * 3) ++ (enE x ++ cur1.toList.drop (i * 3 + (enE x).length))).toArray
    exact ⟨h2.os.trans h1.os, h2.tape.trans h1.tape, h2.output.trans h1.output, Nat.le_trans h1.size h2.size, fun k hk hne => (h2.block k (Nat.lt_of_lt_of_le hk h1.size) hne).trans (h1.block k hk hne)⟩
  have HF := Lib.hid hfin
  have HG := Lib.hid hgr
  have hw1 : IntKind.i64.wrap ((i : Int) + 1) = (i : Int) + 1 := by rw [IntKind.wrap_i64]; omega
  have hw2 : IntKind.i64.wrap ((n : Int) + 1) = (n : Int) + 1 := by rw [IntKind.wrap_i64]; omega
  have hb1 : ¬ ((i : Int) = (n : Int)) := by omega
  have hb2 : ¬ (c = i + 1) := by omega
  have hb4 : ¬ (c = i) := by omega
  have hb5 : (i : Int) + 1 ≤ (n : Int) + 1 := by omega
  have hb6 : (i : Int) ≤ (n : Int) + 1 := by omega
  have hb7 : i ≤ n := by omega
  have hb0 : (0 : Int) ≤ (i : Int) + 1 := by omega
  have htn : ((i : Int) + 1).toNat = i + 1 := by omega
  have hb8 : (n : Int) + 1 ≤ (c : Int) := by omega
  have hb9 : ¬ ((c : Int) < (n : Int) + 1) := by omega
  have HN1 := Lib.hid hn1
  have HM1 := Lib.hid hm1
  have HM2 := Lib.hid hm2
  have HN2 := Lib.hid hn2
  have HF2 := Lib.hid hfit2
  have HO2 := Lib.hid hone2
  have HS2 := Lib.hid hsrc2
  have HG1 := Lib.hid hg1
  clear hfin hgr hcl hXl hget hdl htake hcm hcs hsz1 hx hbg hC1 hC1l hnc hn1 hm1 hn2 hm2 hfit2 hone2 hsrc2 hg1 hx1
  go_enter Try.func32, Try.ntmps32
  go_wp2_with (simp only [hov])
  go_region_law (refine step_copy_ownK rfl (.tmp 73) (.tmp 76) _ _ rfl 32 Try.underlying39 3 szE g ((i + 1) * 3) (n - i) (c - (i + 1)) ⟨g, i * 3, none⟩ (n + 1 - i) (c - i) (by simp [Act.eval, Act.put]) (by simp [Act.eval, Act.put]) cur 32 hg C1 (n - i) HM1.out HN1.out hsrc1 hfit1 hone ?_)
  rw [← hcur1]
  clear hcur1
  go_wp2_with (refine wpList_copy_ownK rfl (.tmp 80) (.tmp 81) _ _ rfl 32 Try.underlying39 3 szE g (i * 3) (n + 1 - i) (c - i) ⟨h, 0, none⟩ 1 1 rfl rfl cur1 32 HG1.out (enE x) 1 HM2.out HN2.out HS2.out HF2.out HO2.out ?_)
  go_ret
  exact ⟨rfl, HF.out, HG.out⟩
set_option maxHeartbeats 2000000 in
theorem ins_growE {g : Nat} (hO : OwnK kEn w (.slice (some ⟨g, 0, none⟩) n n) l) (hln : l.length = n) (hn : n ≤ 1000000) {i : Nat} (hi : i < n) {h : Nat} {x : En} (hx : w.heap[h]? = some (.cells (VE x) 32 (0, 0))) :
    Calls Try.prog 32 #[.slice (some ⟨g, 0, none⟩) n n, .int .i64 i, .slice (some ⟨h, 0, none⟩) 1 1] w fun e w' => ∃ d, e = .returned (.slice (some ⟨w.heap.size, 0, none⟩) (n + 1) d) ∧ OwnK kEn w' (.slice (some ⟨w.heap.size, 0, none⟩) (n + 1) d) ((l.take i ++ x :: l.drop i)) ∧ w.grownBy w' (some g) := by
  have hmax := hO.reads.max
  have hcellO := hO
  obtain ⟨hcl, ⟨e, _⟩ | ⟨g', cap, cur, e, hbg, hg, hnc, hcm, hcs, htake⟩⟩ := hO
  · cases e
  injection e with e1 e2 e3
  injection e1 with e1
  injection e1 with e1
  subst e1 e3
  clear e2
  have hgl : g < w.heap.size := (Array.getElem?_eq_some_iff.1 hg).1
  have hhl : h < w.heap.size := (Array.getElem?_eq_some_iff.1 hx).1
  have hcs : cur.size = n * 3 := hcs
  have htake : cur.toList.take (n * 3) = cellsK kEn l := by rw [← htake, hln]; rfl
  have hXl : (cellsK kEn l).length = n * 3 := by rw [cellsK_length, hln]; rfl
  have hget : ∀ j v, (cellsK kEn l)[j]? = some v → cur[j]? = some v := fun j v hj => by
    rw [← htake, List.getElem?_take] at hj
    split at hj
    · simpa using hj
    · cases hj
  obtain ⟨i0, hi0, hz0, hz1, hz2⟩ := info_parts kEn.info
  have htn : Try.prog.underlying 3 = some (.int .i64) := Try.underlying3
  obtain ⟨k, hk⟩ : ∃ k : Nat, n + 1 - i = k := ⟨_, rfl⟩
  have hik : i + k = n + 1 := by omega
  have holds : ∀ j u, ((cellsK kEn l).take (i * 3))[j]? = some u → w.drew.cell? ((⟨g, 0, none⟩ : Addr).add j) = some u := fun j u hj => by
    rw [List.getElem?_take] at hj
    split at hj
    · show w.cell? ((⟨g, 0, none⟩ : Addr).add j) = some u
      rw [Addr.add_lit, Lib.cell_of_heap hg, Nat.zero_add]; exact hget _ _ hj
    · cases hj
  have hfo := run_firstCells_some (P := Try.prog) w.drew 3 i ⟨g, 0, none⟩ i n ((cellsK kEn l).take (i * 3)) (by rw [List.length_take, hXl]; omega) holds
  have hrun : ∀ ty, _ := fun ty => Lib.run_append_grow_zeros (P := Try.prog) w 39 3 ty 32 i0 _ .i64 .i64 Try.underlying39 htn hi0 hz0 (some ⟨g, 0, none⟩) i n ((cellsK kEn l).take (i * 3)) (by rw [hz1]; exact hfo) k (by omega) (by rw [hz1]; decide) (by omega) (by omega) (by rw [hz2]; show k * 32 ≤ _; omega) (growslice_fits (by omega) (by rw [hz2]; show (i + k) * 32 ≤ _; omega))
  rw [hik] at hrun
  have hge := grownCap_ge w (n + 1) n 32
  have hcm2 : grownCap w (n + 1) n 32 ≤ maxLen := grownCap_le_maxLen w (n + 1) n 32 (by simp only [maxLen]; omega)
  generalize hd : grownCap w (n + 1) n 32 = d at hrun hge hcm2
  have hrun2 : ∃ Z : Array Value, Z.size = d * 3 ∧ Z.toList.take (i * 3) = (cellsK kEn l).take (i * 3) ∧ ∀ ty, (Builtin.append_ #[39, 3] ty #[.slice (some ⟨g, 0, none⟩) i n, .int .i64 (k : Int)]).run Try.prog w = .ok (.slice (some ⟨w.heap.size, 0, none⟩) (n + 1) d) (w.drew.alloc (.cells Z 32)) := by
    refine ⟨_, ?_, ?_, hrun⟩
    · have h1 : (Builtin.zeroCells kEn.zero.cells k).size = k * 3 := size_zeroCells _ _
      have h2 : (Builtin.zeroCells kEn.zero.cells (d - (n + 1))).size = (d - (n + 1)) * 3 := size_zeroCells _ _
      simp only [Array.size_append, h1, h2, List.size_toArray, List.length_take, hXl]
      omega
    · simp only [Array.toList_append, List.append_assoc]
      exact List.take_left' (by rw [List.length_take, hXl]; omega)
  obtain ⟨Z, hZs, hZt, hrun3⟩ := hrun2
  clear hrun hfo holds
  obtain ⟨W1, hW1⟩ : ∃ W1, W1 = w.drew.alloc (.cells Z 32) := ⟨_, rfl⟩
  rw [← hW1] at hrun3
  obtain ⟨H, hH⟩ : ∃ H, H = w.heap.size := ⟨_, rfl⟩
  have hB1 : Below w.heap.size w W1 := by rw [hW1]; exact (Below.refl w.heap.size w).drew.alloc (by simp) _
  have hz1' : W1.heap[H]? = some (.cells Z 32 (0, 0)) := by rw [hW1, hH]; exact heap_alloc_new w.drew _
  rw [← hH] at hrun3
  have hHg : H ≠ g := by omega
  have hHh : h ≠ H := by omega
  generalize hX : cellsK kEn l = X at *
  -- the first copy
  obtain ⟨cur2, hcur2⟩ : ∃ cur2, cur2 = (Z.toList.take (i * 3) ++ (enE x ++ Z.toList.drop (i * 3 + (enE x).length))).toArray := ⟨_, rfl⟩
  have hxl : (enE x).length = 3 := rfl
  have hsz2 : cur2.size = d * 3 := by rw [hcur2]; simp; omega
  have hx1 : W1.heap[h]? = some (.cells (VE x) 32 (0, 0)) := (hB1.block h hhl).trans hx
  have hsrc2 : ∀ j v, (enE x)[j]? = some v → W1.cell? ((⟨h, 0, none⟩ : Addr).add j) = some v := fun j v hj => by
    rw [Addr.add_lit, Lib.cell_of_heap hx1, Nat.zero_add]; simpa [enE] using hj
  have hm2 : 1 = Nat.min 1 (n + 1 - i) := by simp only [Nat.min_def]; split <;> omega
  have hn2 : (enE x).length = 1 * 3 := rfl
  have hfit2 : i * 3 + (enE x).length ≤ Z.size := by rw [hZs, hxl]; omega
  have hone2 : ∀ v ∈ (enE x), v.oneCell' = true := fun v hv => kEn.one x v hv
  obtain ⟨W2, hW2⟩ : ∃ W2, W2 = W1.setRow H cur2 := ⟨_, rfl⟩
  have hg2 : W2.drew.heap[H]? = some (.cells cur2 32 (0, 0)) := by rw [hW2]; exact setRow_heapK W1 hz1'
  have hgg : W2.drew.heap[g]? = some (.cells cur 32 (0, 0)) := by
    rw [hW2]
    exact (setRow_other W1 H g cur2 (fun e => hHg e.symm)).trans ((hB1.block g hgl).trans hg)
  -- the second
  have hdl : (X.drop (i * 3)).length = (n - i) * 3 := by rw [List.length_drop, hXl, Nat.sub_mul]
  have hsrc3 : ∀ j v, (X.drop (i * 3))[j]? = some v → W2.drew.cell? ((⟨g, i * 3, none⟩ : Addr).add j) = some v := fun j v hj => by
    rw [List.getElem?_drop] at hj
    rw [Addr.add_lit, Lib.cell_of_heap hgg]; exact hget _ _ hj
  have hone3 : ∀ v ∈ X.drop (i * 3), v.oneCell' = true := fun v hv => cellsK_mem (K := kEn) (l := l) (by rw [hX]; exact List.mem_of_mem_drop hv)
  have hm3 : n - i = Nat.min (n - i) (n - i) := by simp only [Nat.min_def]; split <;> omega
  have hn3 : (X.drop (i * 3)).length = (n - i) * 3 := hdl
  have hfit3 : (i + 1) * 3 + (X.drop (i * 3)).length ≤ cur2.size := by rw [hdl, hsz2]; omega
  obtain ⟨cur3, hcur3⟩ : ∃ cur3, cur3 = (cur2.toList.take ((i + 1) * 3) ++ (X.drop (i * 3) ++ cur2.toList.drop ((i + 1) * 3 + (X.drop (i * 3)).length))).toArray := ⟨_, rfl⟩
  have hfin : OwnK kEn (W2.drew.setRow H cur3) (.slice (some ⟨H, 0, none⟩) (n + 1) d) (l.take i ++ x :: l.drop i) := by
    have hll : (l.take i ++ x :: l.drop i).length = n + 1 := by simp; omega
    refine ⟨by rw [cellsK_length], .inr ⟨H, d, _, by rw [hll], Nat.zero_le _, setRow_heapK _ hg2, by rw [hll]; omega, hcm2, ?_, ?_⟩⟩
    · show _ = d * 3
      have := hdl; rw [hcur3]; simp [hsz2]; omega
    · rw [hll, cellsE_mid l i x (by omega), hcur3, List.toList_toArray, hcur2, List.toList_toArray, hX]
      exact ins_take2E (Z := Z.toList) (X := X) (C := enE x) (p := i * 3) (q := (i + 1) * 3) (N := (n + 1) * 3) (k := 3) hXl hZt rfl (by omega) (by omega) (by omega) (by rw [Array.length_toList, hZs]; omega)
  have hgr : w.grownBy (W2.drew.setRow H cur3) (some g) := by
    have hb2 : Below w.heap.size w W2 := by rw [hW2]; exact below_setRow hB1 (by omega) _
    have hb3 : Below w.heap.size w (W2.drew.setRow H cur3) := below_setRow hb2.drew (by omega) _
    exact ⟨hb3.os, hb3.tape, hb3.output, hb3.size, fun k hk _ => hb3.block k hk⟩
  have HF := Lib.hid hfin
  have HG := Lib.hid hgr
  have HN2 := Lib.hid hn2
  have HM2 := Lib.hid hm2
  have HM3 := Lib.hid hm3
  have HF2 := Lib.hid hfit2
  have HO2 := Lib.hid hone2
  have HS2 := Lib.hid hsrc2
  have HG1 := Lib.hid hz1'
  have HN3 := Lib.hid hn3
  have HF3 := Lib.hid hfit3
  have HO3 := Lib.hid hone3
  have HS3 := Lib.hid hsrc3
  have HG2 := Lib.hid hg2
  have HR3 := Lib.hid hrun3
  have HC2 := Lib.hid hcur2
  have HC3 := Lib.hid hcur3
  have HW2 := Lib.hid hW2
  have HH2 := Lib.hid hH
  have hkk : (n : Int) + 1 - (i : Int) = (k : Int) := by omega
  have hw1 : IntKind.i64.wrap ((i : Int) + 1) = (i : Int) + 1 := by rw [IntKind.wrap_i64]; omega
  have hw2 : IntKind.i64.wrap ((n : Int) + 1) = (n : Int) + 1 := by rw [IntKind.wrap_i64]; omega
  have hw3 : IntKind.i64.wrap ((n : Int) + 1 - (i : Int)) = (k : Int) := by rw [IntKind.wrap_i64]; omega
  have hw4 : IntKind.i64.wrap (k : Int) = (k : Int) := by rw [IntKind.wrap_i64]; omega
  have hb1 : ¬ ((i : Int) = (n : Int)) := by omega
  have hb2 : ¬ (d = i + 1) := by omega
  have hb4 : ¬ (d = i) := by omega
  have hb3 : ¬ (n = i) := by omega
  have hb5 : (i : Int) + 1 ≤ (n : Int) + 1 := by omega
  have hb6 : (i : Int) ≤ (n : Int) + 1 := by omega
  have hb7 : i ≤ n := by omega
  have hb0 : (0 : Int) ≤ (i : Int) + 1 := by omega
  have htn2 : ((i : Int) + 1).toNat = i + 1 := by omega
  have hb9 : (n : Int) < (n : Int) + 1 := by omega
  clear hfin hgr hcl hXl hget hdl htake hcs hsz2 hx hbg hn2 hm2 hm3 hfit2 hone2 hsrc2 hz1' hn3 hfit3 hone3 hsrc3 hg2 hrun3 hcur2 hcur3 hx1 hgg hZs hZt hnc hX hi0 hz0 hz1 hz2 htn hcellO hg hd hkk hk hik hW2 hW1 hH hB1
  go_enter Try.func32, Try.ntmps32
  go_wp2_with (first | (at_builtin; refine Lib.wpList_append_run _ rfl (.tmp 34) (.tmp 39) _ _ rfl _ _ rfl rfl _ _ (HR3.out _) ?_) | (refine wpList_copy_ownK rfl (.tmp 43) (.tmp 44) _ _ rfl 32 Try.underlying39 3 szE H (i * 3) (n + 1 - i) (d - i) ⟨h, 0, none⟩ 1 1 rfl rfl Z 32 HG1.out (enE x) 1 HM2.out HN2.out HS2.out HF2.out HO2.out ?_; rw [← HC2.out, ← HW2.out]))
  go_region_law (refine step_copy_ownK rfl (.tmp 50) (.tmp 53) _ _ rfl 32 Try.underlying39 3 szE H ((i + 1) * 3) (n - i) (d - (i + 1)) ⟨g, i * 3, none⟩ (n - i) (n - i) (by simp [Act.eval, Act.put]) (by simp [Act.eval, Act.put]) cur2 32 HG2.out (X.drop (i * 3)) (n - i) HM3.out HN3.out HS3.out HF3.out HO3.out ?_; rw [← HC3.out])
  go_wp2
  go_ret
  exact ⟨d, by rw [← HH2.out]; rfl, by rw [← HH2.out]; exact HF.out, HG.out⟩
/-- slices.Insert of one number. -/
theorem ins_anyE {v : Value} (hO : OwnK kEn w v l) (hn : l.length ≤ 1000000) {i : Nat} (hi : i ≤ l.length) {h : Nat} {x : En} (hx : w.heap[h]? = some (.cells (VE x) 32 (0, 0))) (hh : ∀ g, v.ownBlock = some g → h ≠ g) :
    Calls Try.prog 32 #[v, .int .i64 i, .slice (some ⟨h, 0, none⟩) 1 1] w fun e w' => ∃ v', e = .returned v' ∧ OwnK kEn w' v' ((l.take i ++ x :: l.drop i)) ∧ w.grownBy w' v.ownBlock ∧ (v'.ownBlock = v.ownBlock ∨ v'.ownBlock = some w.heap.size) := by
  obtain ⟨A, c, rfl, hr, hA⟩ := hO.form (n := l.length) rfl
  have hcap := hr.cap
  rcases Nat.lt_or_ge i l.length with hlt | hge
  · obtain ⟨g, rfl, hg⟩ := hO.head (by omega)
    by_cases hroom : l.length + 1 ≤ c
    · refine (ins_roomE hO rfl hn hlt hroom hx (hh g rfl)).mono ?_
      rintro e w' ⟨rfl, O2, G2⟩
      exact ⟨_, rfl, O2, G2, .inl rfl⟩
    · obtain rfl : c = l.length := by omega
      refine (ins_growE hO rfl hn hlt hx).mono ?_
      rintro e w' ⟨d, rfl, O2, G2⟩
      exact ⟨_, rfl, O2, G2, .inr rfl⟩
  · obtain rfl : i = l.length := by omega
    have hrx : RdG kEn w (some ⟨h, 0, none⟩) 1 1 [x] := ⟨rfl, Nat.le_refl _, by simp [maxLen], fun j a ha => by
      cases j with
      | zero =>
        simp at ha; subst ha
        refine ⟨h, 0, rfl, fun q u hu => ?_⟩
        have hu' : (enE x)[q]? = some u := hu
        rw [Lib.cell_of_heap hx]
        simpa [enE] using hu'
      | succ j => simp at ha⟩
    have := ins_endE hO rfl rfl hn hrx
    rw [List.take_length, List.drop_length]
    exact this
end
set_option maxHeartbeats 1000000 in
/-- A copy of a row of entries: in new memory, or none. -/
theorem cloneE_any {A : Option Addr} {n c : Nat} {L : List En} {w : World} (h : RdG kEn w A n c L) (hn : n ≤ 1000000) : Calls Try.prog 33 #[.slice A n c] w (RowOut kEn w L) := by
  have hln := h.len
  have hcp := h.cap
  have hmx := h.max
  cases A with
  | none =>
    have hn0 : n = 0 := by
      rcases Nat.eq_zero_or_pos n with h0 | h0
      · exact h0
      · obtain ⟨b, o, e, hA, _⟩ := h.atEn h0; cases hA
    subst hn0
    have hR0 : RdG kEn w none 0 0 L := by
      obtain rfl := List.eq_nil_of_length_eq_zero hln
      exact ⟨rfl, Nat.le_refl _, by simp [maxLen], fun j a ha => by simp at ha⟩
    have hnil : ∀ W, (binOp .eql 39 (.slice none 0 c) (.slice none 0 0)).run Try.prog W = .ok (.bool true) W := fun W => Lib.run_eql_slice_nil_nil W _ _ Try.underlying39
    clear h
    go_enter Try.func33, Try.ntmps33
    go_wp2
    go_ret
    exact ⟨none, 0, 0, hln, rfl, hR0, (fun _ _ _ h => by cases h), Below.refl _ _⟩
  | some a =>
    have hnil : ∀ W, (binOp .eql 39 (.slice (some a) n c) (.slice none 0 0)).run Try.prog W = .ok (.bool false) W := fun W => Lib.run_eql_slice_some_nil W _ _ _ Try.underlying39
    have b1 : Below w.heap.size w (w.alloc (.cells #[] 32)) := (Below.refl _ _).alloc (Nat.le_refl _) _
    have R1 := h.below b1
    have O1 : OwnK kEn (w.alloc (.cells #[] 32)) (.slice (some ⟨w.heap.size, 0, none⟩) 0 0) [] := OwnK.empty' kEn rfl rfl
    have N1 : New w (.slice (some ⟨w.heap.size, 0, none⟩) 0 0) := New.lit (Nat.le_refl _)
    have hby : ([] : List En).length + n ≤ 1000000000 := by simp; omega
    have hl2 : ([] ++ L).length = n := by simp [hln]
    clear h
    go_enter Try.func33, Try.ntmps33
    go_wp2_with (at_builtin; refine wpList_appK kEn rfl (.tmp 5) (.tmp 6) rfl _ [] rfl _ n c L rfl O1 R1 hby ?_; intro v2 w2 O2 G2 hat2; have N2 : New w v2 := New.app N1 b1 hat2; have B2 := b1.grown G2 b1.size (fun q hq => N1 q hq); obtain ⟨A2, c2, rfl, R2, hh⟩ := O2.form hl2)
    go_ret
    exact ⟨A2, n, c2, hln, rfl, by simpa using R2, (fun b o sp e => by subst e; exact N2 b rfl), B2⟩
end Go.Proofs.Ytjkomnjkolggnaa
