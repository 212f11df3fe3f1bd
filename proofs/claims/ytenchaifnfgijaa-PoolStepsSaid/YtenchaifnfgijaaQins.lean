/- slices.Insert of one number into a row of the call's own. Conditions: none beyond those typed. -/
import Derived.Test.YtenchaifnfgijaaQslices
import Derived.Laws.CopyOwn
import Derived.Lib.Overlaps
import Derived.Lib.AppendZerosOnto
import Derived.Lib.JoinLaws
namespace Go.Proofs.Ytenchaifnfgijaa
open Go.ChangeShapes Go.WideShapes Go.ChangeAt Go.RowKit
set_option linter.unusedVariables false
set_option linter.unusedSimpArgs false
set_option maxRecDepth 100000

/-- copy into a row in a drawn region. -/
theorem step_copy_own {P : Program} {ops : Array Oper} {o : Oper} {a : Act} {w : World} {K : Act → World → Prop} {Q : Exit → Act → World → Prop} {E : Prop} (hgd : o.guard = none) (d s : Operand) (dT sT : TypeId)
    (ho : o.op = .call { callee := .builtin .copy, args := #[d, s], argTypes := #[dT, sT] }) (elem : TypeId) (hu : P.underlying dT = some (.slice elem)) (hsz : (P.info? elem).map (·.size) = some 1)
    (g off dLen dCap : Nat) (ad : Addr) (sLen sCap : Nat) (hd : a.eval d = .slice (some ⟨g, off, none⟩) dLen dCap) (hs : a.eval s = .slice (some ad) sLen sCap)
    (cur : Array Value) (t : TypeId) (hg : w.heap[g]? = some (.cells cur t (0, 0))) (cs : List Value) (hn : cs.length = Nat.min sLen dLen)
    (hsrc : ∀ j v, cs[j]? = some v → w.cell? (ad.add j) = some v) (hfit : off + cs.length ≤ cur.size) (h1 : ∀ v ∈ cs, v.oneCell' = true)
    (h : K (a.put o.dst (goInt cs.length)) (w.setRow g (cur.toList.take off ++ (cs ++ cur.toList.drop (off + cs.length))).toArray)) :
    if Region.wanted o (yielded ops a.tmps) = true then Oper.wp P o a w K Q else E := by
  have hw : Region.wanted o (yielded ops a.tmps) = true := by simp [Region.wanted, hgd]
  rw [if_pos hw]
  have hrun := run_copy_row (P := P) w dT sT o.type elem g off dLen dCap ad sLen sCap cur t cs hu hsz hg hn hsrc hfit h1
  unfold Oper.wp
  simp [execOp, ho, resolve, invoke, builtin, hd, hs, hrun, Result.andThen]
  exact h
section
variable {w : World} {A : Option Addr} {n c : Nat} {l : List Nat}
theorem szI : (Try.prog.info? 3).map (·.size) = some 1 := by kernel_rfl
theorem cellsN (l : List Nat) : cellsK kI (intsN l) = l.map fun (i : Nat) => Value.int .i64 (i : Int) := by
  induction l with
  | nil => rfl
  | cons a r ih =>
    show cellsK kI ((a : Int) :: intsN r) = _
    rw [cellsK_cons, ih]; rfl
theorem setRow_heapI (w : World) {g : Nat} {cur cs : Array Value} {t : TypeId} (hg : w.heap[g]? = some (.cells cur t (0, 0))) : (w.setRow g cs).heap[g]? = some (.cells cs t (0, 0)) := by
  simp [World.setRow, Array.getElem?_modify, hg]
theorem setRow_grown (w : World) (g : Nat) (cs : Array Value) : w.grownBy (w.setRow g cs) (some g) :=
  ⟨rfl, rfl, rfl, by simp [World.setRow], fun k hk hne => setRow_other w g k cs (fun e => hne (by rw [e]))⟩
/-- Behind both copies. -/
theorem ins_take {L0 X : List Value} {i n : Nat} {x : Value} (hX : L0.take n = X) (hi : i ≤ n) (hn : n + 1 ≤ L0.length) :
    (((L0.take (i + 1) ++ (X.drop i ++ L0.drop (i + 1 + (X.drop i).length))).take i ++ ([x] ++ (L0.take (i + 1) ++ (X.drop i ++ L0.drop (i + 1 + (X.drop i).length))).drop (i + 1))).take (n + 1)) = X.take i ++ x :: X.drop i := by
  have hl : X.length = n := by rw [← hX, List.length_take]; omega
  have e1 : (L0.take (i + 1)).length = i + 1 := by rw [List.length_take]; omega
  have e2 : (L0.take (i + 1)).take i = X.take i := by rw [List.take_take, ← hX, List.take_take, Nat.min_eq_left (by omega), Nat.min_eq_left hi]
  generalize hY : X.drop i ++ L0.drop (i + 1 + (X.drop i).length) = Y
  have h1 : (L0.take (i + 1) ++ Y).take i = X.take i := by rw [List.take_append_of_le_length (by rw [e1]; omega), e2]
  have h2 : (L0.take (i + 1) ++ Y).drop (i + 1) = Y := List.drop_left' e1
  rw [h1, h2, ← hY]
  have h3 : (X.take i).length = i := by rw [List.length_take, hl]; omega
  have h4 : X.take i ++ ([x] ++ (X.drop i ++ L0.drop (i + 1 + (X.drop i).length))) = (X.take i ++ x :: X.drop i) ++ L0.drop (i + 1 + (X.drop i).length) := by simp
  rw [h4]
  exact List.take_left' (by rw [List.length_append, List.length_cons, h3, List.length_drop, hl]; omega)
set_option maxHeartbeats 2000000 in
theorem ins_end {v : Value} (hO : OwnK kI w v (intsN l)) (hln : l.length = n) (hv : v = .slice A n c) (hn : n ≤ 1000000) {h x : Nat} (hr : RdG kI w (some ⟨h, 0, none⟩) 1 1 [(x : Int)]) :
    Calls Try.prog 55 #[.slice A n c, .int .i64 n, .slice (some ⟨h, 0, none⟩) 1 1] w fun e w' => ∃ v', e = .returned v' ∧ OwnK kI w' v' (intsN (l ++ [x])) ∧ w.grownBy w' v.ownBlock ∧ (v'.ownBlock = v.ownBlock ∨ v'.ownBlock = some w.heap.size) := by
  subst hv
  have hrd := hO.reads
  have hcap := hrd.cap
  have hmax := hrd.max
  have hby : (intsN l).length + 1 ≤ 1000000000 := by simp [intsN]; omega
  have e : intsN l ++ [(x : Int)] = intsN (l ++ [x]) := by simp [intsN]
  have hne : (n : Int) ≤ (c : Int) := by omega
  have hEmp : ∀ A', A = some A' → True := fun _ _ => trivial
  have HO := Lib.hid hO
  have HE := Lib.hid e
  clear hrd e hEmp
  by_cases h0 : A = none
  · subst h0
    have hn0 : n = 0 := by
      rcases hO.2 with ⟨e, _⟩ | ⟨g, cap, cur, e, _⟩
      · injection e with _ e _
      · cases e
    subst hn0
    go_enter Try.func55, Try.ntmps55
    go_wp2_with (at_builtin; refine wpList_appK kI rfl (.tmp 23) (.tmp 24) rfl _ (intsN l) rfl _ 1 1 [(x : Int)] rfl hO hr hby ?_; intro v7 w7 O7 G7 hat7)
    go_ret
    rw [HE.out] at O7
    exact ⟨_, rfl, O7, G7, hat7⟩
  · obtain ⟨g, rfl⟩ : ∃ g, A = some ⟨g, 0, none⟩ := by
      rcases hO.2 with ⟨e, _⟩ | ⟨g, cap, cur, e, _⟩
      · injection e with e _ _; exact absurd e h0
      · injection e with e _ _; exact ⟨g, e⟩
    clear h0
    by_cases hnc : c = n
    · subst hnc
      go_enter Try.func55, Try.ntmps55
      go_wp2_with (at_builtin; refine wpList_appK kI rfl (.tmp 23) (.tmp 24) rfl _ (intsN l) rfl _ 1 1 [(x : Int)] rfl hO hr hby ?_; intro v7 w7 O7 G7 hat7)
      go_ret
      rw [HE.out] at O7
      exact ⟨_, rfl, O7, G7, hat7⟩
    · go_enter Try.func55, Try.ntmps55
      go_wp2_with (at_builtin; refine wpList_appK kI rfl (.tmp 23) (.tmp 24) rfl _ (intsN l) rfl _ 1 1 [(x : Int)] rfl hO hr hby ?_; intro v7 w7 O7 G7 hat7)
      go_ret
      rw [HE.out] at O7
      exact ⟨_, rfl, O7, G7, hat7⟩
set_option maxHeartbeats 2000000 in
theorem ins_room {g : Nat} (hO : OwnK kI w (.slice (some ⟨g, 0, none⟩) n c) (intsN l)) (hln : l.length = n) (hn : n ≤ 1000000) {i : Nat} (hi : i < n) (hroom : n + 1 ≤ c) {h x : Nat} (hx : w.heap[h]? = some (.cells #[.int .i64 (x : Int)] 3 (0, 0))) (hh : h ≠ g) :
    Calls Try.prog 55 #[.slice (some ⟨g, 0, none⟩) n c, .int .i64 i, .slice (some ⟨h, 0, none⟩) 1 1] w fun e w' => e = .returned (.slice (some ⟨g, 0, none⟩) (n + 1) c) ∧ OwnK kI w' (.slice (some ⟨g, 0, none⟩) (n + 1) c) (intsN (l.take i ++ x :: l.drop i)) ∧ w.grownBy w' (some g) := by
  have hcap := hO.reads.cap
  have hmax := hO.reads.max
  obtain ⟨hcl, ⟨e, _⟩ | ⟨g', cap, cur, e, hbg, hg, hnc, hcm, hcs, htake⟩⟩ := hO
  · cases e
  injection e with e1 e2 e3
  injection e1 with e1
  injection e1 with e1
  subst e1 e3
  clear e2
  have hcs : cur.size = c := by rw [hcs]; simp [kI]
  have htake : cur.toList.take n = cellsK kI (intsN l) := by rw [← htake]; simp [kI, intsN, hln]
  have hXl : (cellsK kI (intsN l)).length = n := by rw [cellsN, List.length_map, hln]
  have hov : ∀ lb cb, (callFunc 56 #[.slice (some ⟨h, 0, none⟩) 1 1, .slice (some ⟨g, i + 1, none⟩) lb cb]).run Try.prog w = .ok (.value (.bool false)) w := fun lb cb => by
    rw [run_callFunc_extern Try.func56 (by kernel_rfl) (by kernel_rfl) (by kernel_rfl) (e := Extern.SlicesOverlaps.overlaps #[22, 22] #[4]) (by kernel_rfl),
      Lib.run_overlaps_apart w 22 4 3 Try.underlying22 1 (by intro w; kernel_rfl) ⟨h, 0, none⟩ ⟨g, i + 1, none⟩ 1 1 _ _ hh 3 3 1 c (by simp [World.shape?, hx]) (by simp [World.shape?, hg, hcs]; rfl) (by omega) (by simp [World.frozen?, hx]) (by simp [World.frozen?, hx])]
    rfl
  have hget : ∀ j v, (cellsK kI (intsN l))[j]? = some v → cur[j]? = some v := fun j v hj => by
    rw [← htake, List.getElem?_take] at hj
    split at hj
    · simpa using hj
    · cases hj
  have hdl : ((cellsK kI (intsN l)).drop i).length = n - i := by rw [List.length_drop, hXl]
  have hsrc1 : ∀ j v, ((cellsK kI (intsN l)).drop i)[j]? = some v → w.drew.cell? ((⟨g, i, none⟩ : Addr).add j) = some v := fun j v hj => by
    rw [List.getElem?_drop] at hj
    have h2 := hget _ _ hj
    show w.cell? ((⟨g, i, none⟩ : Addr).add j) = some v
    rw [Addr.add_lit, Lib.cell_of_heap hg]; exact h2
  have hone : ∀ v ∈ (cellsK kI (intsN l)).drop i, v.oneCell' = true := fun v hv => cellsK_mem (List.mem_of_mem_drop hv)
  have hn1 : ((cellsK kI (intsN l)).drop i).length = Nat.min (n + 1 - i) (n - i) := by rw [hdl]; simp only [Nat.min_def]; split <;> omega
  have hfit1 : i + 1 + ((cellsK kI (intsN l)).drop i).length ≤ cur.size := by rw [hdl, hcs]; omega
  generalize hC1 : (cellsK kI (intsN l)).drop i = C1 at *
  obtain ⟨cur1, hcur1⟩ : ∃ cur1, cur1 = (cur.toList.take (i + 1) ++ (C1 ++ cur.toList.drop (i + 1 + C1.length))).toArray := ⟨_, rfl⟩
  have hg1 : (w.drew.setRow g cur1).heap[g]? = some (.cells cur1 3 (0, 0)) := setRow_heapI w.drew hg
  have hx1 : (w.drew.setRow g cur1).cell? ((⟨h, 0, none⟩ : Addr).add 0) = some (.int .i64 (x : Int)) := by
    have : (w.drew.setRow g cur1).heap[h]? = w.drew.heap[h]? := setRow_other w.drew g h cur1 hh
    rw [Addr.add_lit, Lib.cell_of_heap (this.trans hx)]; rfl
  have hsz1 : cur1.size = c := by rw [hcur1]; simp; omega
  have hsrc2 : ∀ j v, [Value.int .i64 (x : Int)][j]? = some v → (w.drew.setRow g cur1).cell? ((⟨h, 0, none⟩ : Addr).add j) = some v := fun j v hj => by
    cases j with
    | zero => simp at hj; subst hj; exact hx1
    | succ j => simp at hj
  have hn2 : [Value.int .i64 (x : Int)].length = Nat.min 1 (n + 1 - i) := by simp only [Nat.min_def]; split <;> simp <;> omega
  have hfit2 : i + [Value.int .i64 (x : Int)].length ≤ cur1.size := by rw [hsz1]; simp; omega
  have hone2 : ∀ v ∈ [Value.int .i64 (x : Int)], v.oneCell' = true := fun v hv => by rw [List.mem_singleton.1 hv]; rfl
  have hfin : OwnK kI ((w.drew.setRow g cur1).setRow g (cur1.toList.take i ++ ([Value.int .i64 (x : Int)] ++ cur1.toList.drop (i + [Value.int .i64 (x : Int)].length))).toArray) (.slice (some ⟨g, 0, none⟩) (n + 1) c) (intsN (l.take i ++ x :: l.drop i)) := by
    have hll : (intsN (l.take i ++ x :: l.drop i)).length = n + 1 := by simp [intsN]; omega
    have hcc : cellsK kI (intsN (l.take i ++ x :: l.drop i)) = (cellsK kI (intsN l)).take i ++ Value.int .i64 (x : Int) :: C1 := by
      rw [← hC1, cellsN, cellsN]; simp [List.map_take, List.map_drop]
    refine ⟨by rw [hcc, hll, ← hC1, List.length_append, List.length_cons, List.length_take, List.length_drop, hXl, Nat.min_eq_left (Nat.le_of_lt hi)]; show i + (n - i + 1) = (n + 1) * 1; omega, .inr ⟨g, c, _, by rw [hll], Nat.zero_le _, setRow_heapI _ hg1, by rw [hll]; exact hroom, hcm, ?_, ?_⟩⟩
    · simp [hsz1, kI]; omega
    · rw [hll, hcc, List.toList_toArray, hcur1, List.toList_toArray]
      have := ins_take (L0 := cur.toList) (x := .int .i64 (x : Int)) htake (Nat.le_of_lt hi) (by rw [Array.length_toList, hcs]; exact hroom)
      rw [hC1] at this
      simpa [kI] using this
  have hgr : w.grownBy ((w.drew.setRow g cur1).setRow g (cur1.toList.take i ++ ([Value.int .i64 (x : Int)] ++ cur1.toList.drop (i + [Value.int .i64 (x : Int)].length))).toArray) (some g) := by
    have h1 := setRow_grown w.drew g cur1
    have h2 := setRow_grown (w.drew.setRow g cur1) g (cur1.toList.take i ++ ([Value.int .i64 (x : Int)] ++ cur1.toList.drop (i + [Value.int .i64 (x : Int)].length))).toArray
    exact ⟨h2.os.trans h1.os, h2.tape.trans h1.tape, h2.output.trans h1.output, Nat.le_trans h1.size h2.size, fun k hk hne => (h2.block k (Nat.lt_of_lt_of_le hk h1.size) hne).trans (h1.block k hk hne)⟩
  have HF := Lib.hid hfin
  have HG := Lib.hid hgr
  have hw1 : IntKind.i64.wrap ((i : Int) + 1) = (i : Int) + 1 := by rw [IntKind.wrap_i64]; omega
  have hw2 : IntKind.i64.wrap ((n : Int) + 1) = (n : Int) + 1 := by rw [IntKind.wrap_i64]; omega
  have hb1 : ¬ ((i : Int) = (n : Int)) := by omega
  have hb2 : ¬ (c = i + 1) := by omega
  have hb4 : ¬ (c = i) := by omega
  have hb5 : (i : Int) + 1 ≤ (n : Int) + 1 := by omega
  have hb6 : (i : Int) ≤ (n : Int) + 1 := by omega
  have hb7 : i ≤ n := by omega
  have hb0 : (0 : Int) ≤ (i : Int) + 1 := by omega
  have htn : ((i : Int) + 1).toNat = i + 1 := by omega
  have hb8 : (n : Int) + 1 ≤ (c : Int) := by omega
  have hb9 : ¬ ((c : Int) < (n : Int) + 1) := by omega
  have HN1 := Lib.hid hn1
  have HN2 := Lib.hid hn2
  have HF2 := Lib.hid hfit2
  have HO2 := Lib.hid hone2
  have HS2 := Lib.hid hsrc2
  have HG1 := Lib.hid hg1
  clear hfin hgr hcl hXl hget hdl htake hcm hcs hsz1 hx hbg hC1 hnc hn1 hn2 hfit2 hone2 hsrc2 hg1 hx1
  go_enter Try.func55, Try.ntmps55
  go_wp2_with (simp only [hov])
  go_region_law (refine step_copy_own rfl (.tmp 73) (.tmp 76) _ _ rfl 3 Try.underlying22 szI g (i + 1) (n - i) (c - (i + 1)) ⟨g, i, none⟩ (n + 1 - i) (c - i) (by simp [Act.eval, Act.put]) (by simp [Act.eval, Act.put]) cur 3 hg C1 HN1.out hsrc1 hfit1 hone ?_)
  rw [← hcur1]
  clear hcur1
  go_wp2_with (refine wpList_copy_own rfl (.tmp 80) (.tmp 81) _ _ rfl 3 Try.underlying22 szI g i (n + 1 - i) (c - i) ⟨h, 0, none⟩ 1 1 rfl rfl cur1 3 HG1.out [.int .i64 (x : Int)] HN2.out HS2.out HF2.out HO2.out ?_)
  go_ret
  exact ⟨rfl, HF.out, HG.out⟩
theorem ins_take2 {Z X : List Value} {i n : Nat} {x : Value} (hX : X.length = n) (hZ : Z.take i = X.take i) (hi : i ≤ n) (hn : n + 1 ≤ Z.length) :
    ((((Z.take i ++ ([x] ++ Z.drop (i + 1))).take (i + 1)) ++ (X.drop i ++ (Z.take i ++ ([x] ++ Z.drop (i + 1))).drop (i + 1 + (X.drop i).length))).take (n + 1)) = X.take i ++ x :: X.drop i := by
  have e1 : (Z.take i).length = i := by rw [List.length_take]; omega
  generalize hY : (Z.take i ++ ([x] ++ Z.drop (i + 1))).drop (i + 1 + (X.drop i).length) = Y
  have h1 : (Z.take i ++ ([x] ++ Z.drop (i + 1))).take (i + 1) = Z.take i ++ [x] := by
    rw [← List.append_assoc]; exact List.take_left' (by simp; omega)
  rw [h1, hZ]
  have h4 : X.take i ++ [x] ++ (X.drop i ++ Y) = (X.take i ++ x :: X.drop i) ++ Y := by simp
  rw [h4]
  exact List.take_left' (by rw [List.length_append, List.length_cons, List.length_take, List.length_drop, hX]; omega)
set_option maxHeartbeats 2000000 in
theorem ins_grow {g : Nat} (hO : OwnK kI w (.slice (some ⟨g, 0, none⟩) n n) (intsN l)) (hln : l.length = n) (hn : n ≤ 1000000) {i : Nat} (hi : i < n) {h x : Nat} (hx : w.heap[h]? = some (.cells #[.int .i64 (x : Int)] 3 (0, 0))) :
    Calls Try.prog 55 #[.slice (some ⟨g, 0, none⟩) n n, .int .i64 i, .slice (some ⟨h, 0, none⟩) 1 1] w fun e w' => ∃ d, e = .returned (.slice (some ⟨w.heap.size, 0, none⟩) (n + 1) d) ∧ OwnK kI w' (.slice (some ⟨w.heap.size, 0, none⟩) (n + 1) d) (intsN (l.take i ++ x :: l.drop i)) ∧ w.grownBy w' (some g) := by
  have hmax := hO.reads.max
  have hcellO := hO
  obtain ⟨hcl, ⟨e, _⟩ | ⟨g', cap, cur, e, hbg, hg, hnc, hcm, hcs, htake⟩⟩ := hO
  · cases e
  injection e with e1 e2 e3
  injection e1 with e1
  injection e1 with e1
  subst e1 e3
  clear e2
  have hgl : g < w.heap.size := (Array.getElem?_eq_some_iff.1 hg).1
  have hhl : h < w.heap.size := (Array.getElem?_eq_some_iff.1 hx).1
  have hcs : cur.size = n := by rw [hcs]; simp [kI]
  have htake : cur.toList.take n = cellsK kI (intsN l) := by rw [← htake]; simp [kI, intsN, hln]
  have hXl : (cellsK kI (intsN l)).length = n := by rw [cellsN, List.length_map, hln]
  have hget : ∀ j v, (cellsK kI (intsN l))[j]? = some v → cur[j]? = some v := fun j v hj => by
    rw [← htake, List.getElem?_take] at hj
    split at hj
    · simpa using hj
    · cases hj
  obtain ⟨i0, hi0, hz0, hz1, hz2⟩ := info_parts kI.info
  have htn : Try.prog.underlying 3 = some (.int .i64) := Try.underlying3
  obtain ⟨k, hk⟩ : ∃ k : Nat, n + 1 - i = k := ⟨_, rfl⟩
  have hik : i + k = n + 1 := by omega
  have holds : ∀ j u, ((cellsK kI (intsN l)).take i)[j]? = some u → w.drew.cell? ((⟨g, 0, none⟩ : Addr).add j) = some u := fun j u hj => by
    rw [List.getElem?_take] at hj
    split at hj
    · show w.cell? ((⟨g, 0, none⟩ : Addr).add j) = some u
      rw [Addr.add_lit, Lib.cell_of_heap hg, Nat.zero_add]; exact hget _ _ hj
    · cases hj
  have hfo := run_firstCells_some (P := Try.prog) w.drew 1 i ⟨g, 0, none⟩ i n ((cellsK kI (intsN l)).take i) (by rw [List.length_take, hXl]; omega) holds
  have hrun : ∀ ty, _ := fun ty => Lib.run_append_grow_zeros (P := Try.prog) w 22 3 ty 3 i0 _ .i64 .i64 Try.underlying22 htn hi0 hz0 (some ⟨g, 0, none⟩) i n ((cellsK kI (intsN l)).take i) (by rw [hz1]; exact hfo) k (by omega) (by rw [hz1]; decide) (by omega) (by omega) (by rw [hz2]; show k * 8 ≤ _; omega) (growslice_fits (by omega) (by rw [hz2]; show (i + k) * 8 ≤ _; omega))
  rw [hik] at hrun
  have hge := grownCap_ge w (n + 1) n 3
  have hcm2 : grownCap w (n + 1) n 3 ≤ maxLen := grownCap_le_maxLen w (n + 1) n 3 (by simp only [maxLen]; omega)
  generalize hd : grownCap w (n + 1) n 3 = d at hrun hge hcm2
  have hrun2 : ∃ Z : Array Value, Z.size = d ∧ Z.toList.take i = (cellsK kI (intsN l)).take i ∧ ∀ ty, (Builtin.append_ #[22, 3] ty #[.slice (some ⟨g, 0, none⟩) i n, .int .i64 (k : Int)]).run Try.prog w = .ok (.slice (some ⟨w.heap.size, 0, none⟩) (n + 1) d) (w.drew.alloc (.cells Z 3)) := by
    refine ⟨_, ?_, ?_, hrun⟩
    · have h1 : (Builtin.zeroCells (Value.int .i64 0).cells k).size = k := by rw [size_zeroCells]; simp [Value.cells]
      have h2 : (Builtin.zeroCells (Value.int .i64 0).cells (d - (n + 1))).size = d - (n + 1) := by rw [size_zeroCells]; simp [Value.cells]
      have hzz : kI.zero = Value.int .i64 0 := rfl
      rw [hzz]
      simp only [Array.size_append, h1, h2, List.size_toArray, List.length_take, hXl]
      omega
    · simp only [Array.toList_append, List.append_assoc]
      exact List.take_left' (by rw [List.length_take, hXl]; omega)
  obtain ⟨Z, hZs, hZt, hrun3⟩ := hrun2
  clear hrun hfo holds
  obtain ⟨W1, hW1⟩ : ∃ W1, W1 = w.drew.alloc (.cells Z 3) := ⟨_, rfl⟩
  rw [← hW1] at hrun3
  obtain ⟨H, hH⟩ : ∃ H, H = w.heap.size := ⟨_, rfl⟩
  have hB1 : Below w.heap.size w W1 := by rw [hW1]; exact (Below.refl w.heap.size w).drew.alloc (by simp) _
  have hz1' : W1.heap[H]? = some (.cells Z 3 (0, 0)) := by rw [hW1, hH]; exact heap_alloc_new w.drew _
  rw [← hH] at hrun3
  have hHg : H ≠ g := by omega
  have hHh : h ≠ H := by omega
  generalize hX : cellsK kI (intsN l) = X at *
  -- the first copy
  obtain ⟨cur2, hcur2⟩ : ∃ cur2, cur2 = (Z.toList.take i ++ ([Value.int .i64 (x : Int)] ++ Z.toList.drop (i + [Value.int .i64 (x : Int)].length))).toArray := ⟨_, rfl⟩
  have hsz2 : cur2.size = d := by rw [hcur2]; simp; omega
  have hx1 : W1.heap[h]? = some (.cells #[.int .i64 (x : Int)] 3 (0, 0)) := (hB1.block h hhl).trans hx
  have hsrc2 : ∀ j v, [Value.int .i64 (x : Int)][j]? = some v → W1.cell? ((⟨h, 0, none⟩ : Addr).add j) = some v := fun j v hj => by
    cases j with
    | zero => simp at hj; subst hj; rw [Addr.add_lit, Lib.cell_of_heap hx1]; rfl
    | succ j => simp at hj
  have hn2 : [Value.int .i64 (x : Int)].length = Nat.min 1 (n + 1 - i) := by simp only [Nat.min_def]; split <;> simp <;> omega
  have hfit2 : i + [Value.int .i64 (x : Int)].length ≤ Z.size := by rw [hZs]; simp; omega
  have hone2 : ∀ v ∈ [Value.int .i64 (x : Int)], v.oneCell' = true := fun v hv => by rw [List.mem_singleton.1 hv]; rfl
  obtain ⟨W2, hW2⟩ : ∃ W2, W2 = W1.setRow H cur2 := ⟨_, rfl⟩
  have hg2 : W2.drew.heap[H]? = some (.cells cur2 3 (0, 0)) := by rw [hW2]; exact setRow_heapI W1 hz1'
  have hgg : W2.drew.heap[g]? = some (.cells cur 3 (0, 0)) := by
    rw [hW2]
    exact (setRow_other W1 H g cur2 (fun e => hHg e.symm)).trans ((hB1.block g hgl).trans hg)
  -- the second
  have hdl : (X.drop i).length = n - i := by rw [List.length_drop, hXl]
  have hsrc3 : ∀ j v, (X.drop i)[j]? = some v → W2.drew.cell? ((⟨g, i, none⟩ : Addr).add j) = some v := fun j v hj => by
    rw [List.getElem?_drop] at hj
    rw [Addr.add_lit, Lib.cell_of_heap hgg]; exact hget _ _ hj
  have hone3 : ∀ v ∈ X.drop i, v.oneCell' = true := fun v hv => cellsK_mem (K := kI) (l := intsN l) (by rw [hX]; exact List.mem_of_mem_drop hv)
  have hn3 : (X.drop i).length = Nat.min (n - i) (n - i) := by rw [hdl]; simp only [Nat.min_def]; split <;> omega
  have hfit3 : i + 1 + (X.drop i).length ≤ cur2.size := by rw [hdl, hsz2]; omega
  obtain ⟨cur3, hcur3⟩ : ∃ cur3, cur3 = (cur2.toList.take (i + 1) ++ (X.drop i ++ cur2.toList.drop (i + 1 + (X.drop i).length))).toArray := ⟨_, rfl⟩
  have hfin : OwnK kI (W2.drew.setRow H cur3) (.slice (some ⟨H, 0, none⟩) (n + 1) d) (intsN (l.take i ++ x :: l.drop i)) := by
    have hll : (intsN (l.take i ++ x :: l.drop i)).length = n + 1 := by simp [intsN]; omega
    have hcc : cellsK kI (intsN (l.take i ++ x :: l.drop i)) = X.take i ++ Value.int .i64 (x : Int) :: X.drop i := by
      rw [← hX, cellsN, cellsN]; simp [List.map_take, List.map_drop]
    refine ⟨by rw [hcc, hll, List.length_append, List.length_cons, List.length_take, hdl, hXl, Nat.min_eq_left (Nat.le_of_lt hi)]; show i + (n - i + 1) = (n + 1) * 1; omega, .inr ⟨H, d, _, by rw [hll], Nat.zero_le _, setRow_heapI _ hg2, by rw [hll]; exact hge, hcm2, ?_, ?_⟩⟩
    · have := hdl; rw [hcur3]; simp [hsz2, kI]; omega
    · rw [hll, hcc, hcur3, List.toList_toArray, hcur2, List.toList_toArray]
      have := ins_take2 (Z := Z.toList) (X := X) (x := .int .i64 (x : Int)) hXl hZt (Nat.le_of_lt hi) (by rw [Array.length_toList, hZs]; exact hge)
      simpa [kI] using this
  have hgr : w.grownBy (W2.drew.setRow H cur3) (some g) := by
    have hb2 : Below w.heap.size w W2 := by rw [hW2]; exact below_setRow hB1 (by omega) _
    have hb3 : Below w.heap.size w (W2.drew.setRow H cur3) := below_setRow hb2.drew (by omega) _
    exact ⟨hb3.os, hb3.tape, hb3.output, hb3.size, fun k hk _ => hb3.block k hk⟩
  have HF := Lib.hid hfin
  have HG := Lib.hid hgr
  have HN2 := Lib.hid hn2
  have HF2 := Lib.hid hfit2
  have HO2 := Lib.hid hone2
  have HS2 := Lib.hid hsrc2
  have HG1 := Lib.hid hz1'
  have HN3 := Lib.hid hn3
  have HF3 := Lib.hid hfit3
  have HO3 := Lib.hid hone3
  have HS3 := Lib.hid hsrc3
  have HG2 := Lib.hid hg2
  have HR3 := Lib.hid hrun3
  have HC2 := Lib.hid hcur2
  have HC3 := Lib.hid hcur3
  have HW2 := Lib.hid hW2
  have HH2 := Lib.hid hH
  have hkk : (n : Int) + 1 - (i : Int) = (k : Int) := by omega
  have hw1 : IntKind.i64.wrap ((i : Int) + 1) = (i : Int) + 1 := by rw [IntKind.wrap_i64]; omega
  have hw2 : IntKind.i64.wrap ((n : Int) + 1) = (n : Int) + 1 := by rw [IntKind.wrap_i64]; omega
  have hw3 : IntKind.i64.wrap ((n : Int) + 1 - (i : Int)) = (k : Int) := by rw [IntKind.wrap_i64]; omega
  have hw4 : IntKind.i64.wrap (k : Int) = (k : Int) := by rw [IntKind.wrap_i64]; omega
  have hb1 : ¬ ((i : Int) = (n : Int)) := by omega
  have hb2 : ¬ (d = i + 1) := by omega
  have hb4 : ¬ (d = i) := by omega
  have hb3 : ¬ (n = i) := by omega
  have hb5 : (i : Int) + 1 ≤ (n : Int) + 1 := by omega
  have hb6 : (i : Int) ≤ (n : Int) + 1 := by omega
  have hb7 : i ≤ n := by omega
  have hb0 : (0 : Int) ≤ (i : Int) + 1 := by omega
  have htn2 : ((i : Int) + 1).toNat = i + 1 := by omega
  have hb9 : (n : Int) < (n : Int) + 1 := by omega
  clear hfin hgr hcl hXl hget hdl htake hcs hsz2 hx hbg hn2 hfit2 hone2 hsrc2 hz1' hn3 hfit3 hone3 hsrc3 hg2 hrun3 hcur2 hcur3 hx1 hgg hZs hZt hnc hX hi0 hz0 hz1 hz2 htn hcellO hg hd hkk hk hik hW2 hW1 hH hB1
  go_enter Try.func55, Try.ntmps55
  go_wp2_with (first | (at_builtin; refine Lib.wpList_append_run _ rfl (.tmp 34) (.tmp 39) _ _ rfl _ _ rfl rfl _ _ (HR3.out _) ?_) | (refine wpList_copy_own rfl (.tmp 43) (.tmp 44) _ _ rfl 3 Try.underlying22 szI H i (n + 1 - i) (d - i) ⟨h, 0, none⟩ 1 1 rfl rfl Z 3 HG1.out [.int .i64 (x : Int)] HN2.out HS2.out HF2.out HO2.out ?_; rw [← HC2.out, ← HW2.out]))
  go_region_law (refine step_copy_own rfl (.tmp 50) (.tmp 53) _ _ rfl 3 Try.underlying22 szI H (i + 1) (n - i) (d - (i + 1)) ⟨g, i, none⟩ (n - i) (n - i) (by simp [Act.eval, Act.put]) (by simp [Act.eval, Act.put]) cur2 3 HG2.out (X.drop i) HN3.out HS3.out HF3.out HO3.out ?_; rw [← HC3.out])
  go_wp2
  go_ret
  exact ⟨d, by rw [← HH2.out]; rfl, by rw [← HH2.out]; exact HF.out, HG.out⟩
/-- slices.Insert of one number. -/
theorem ins_any {v : Value} (hO : OwnK kI w v (intsN l)) (hn : l.length ≤ 1000000) {i : Nat} (hi : i ≤ l.length) {h x : Nat} (hx : w.heap[h]? = some (.cells #[.int .i64 (x : Int)] 3 (0, 0))) (hh : ∀ g, v.ownBlock = some g → h ≠ g) :
    Calls Try.prog 55 #[v, .int .i64 i, .slice (some ⟨h, 0, none⟩) 1 1] w fun e w' => ∃ v', e = .returned v' ∧ OwnK kI w' v' (intsN (l.take i ++ x :: l.drop i)) ∧ w.grownBy w' v.ownBlock ∧ (v'.ownBlock = v.ownBlock ∨ v'.ownBlock = some w.heap.size) := by
  obtain ⟨A, c, rfl, hr, hA⟩ := hO.form (n := l.length) (by simp [intsN])
  have hcap := hr.cap
  rcases Nat.lt_or_ge i l.length with hlt | hge
  · obtain ⟨g, rfl, hg⟩ := hO.head (by omega)
    by_cases hroom : l.length + 1 ≤ c
    · refine (ins_room hO rfl hn hlt hroom hx (hh g rfl)).mono ?_
      rintro e w' ⟨rfl, O2, G2⟩
      exact ⟨_, rfl, O2, G2, .inl rfl⟩
    · obtain rfl : c = l.length := by omega
      refine (ins_grow hO rfl hn hlt hx).mono ?_
      rintro e w' ⟨d, rfl, O2, G2⟩
      exact ⟨_, rfl, O2, G2, .inr rfl⟩
  · obtain rfl : i = l.length := by omega
    have hrx : RdG kI w (some ⟨h, 0, none⟩) 1 1 [(x : Int)] := ⟨rfl, Nat.le_refl _, by simp [maxLen], fun j a ha => by
      cases j with
      | zero =>
        simp at ha; subst ha
        refine ⟨h, 0, rfl, fun q u hu => ?_⟩
        have hu' : [Value.int .i64 (x : Int)][q]? = some u := hu
        rw [Lib.cell_of_heap hx]
        simpa using hu'
      | succ j => simp at ha⟩
    have := ins_end hO rfl rfl hn hrx
    rw [List.take_length, List.drop_length]
    exact this
end
end Go.Proofs.Ytenchaifnfgijaa
