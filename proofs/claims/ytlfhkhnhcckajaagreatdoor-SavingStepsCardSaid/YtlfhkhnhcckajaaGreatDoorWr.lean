/- Words laid together in one text. Conditions: none beyond those typed. -/
import Derived.Test.YtlfhkhnhcckajaaGreatDoorZ14
import Derived.Test.YtlfhkhnhcckajaaGreatDoorLr
import Derived.Test.YtlfhkhnhcckajaaGreatDoorLq
import Derived.Test.YtlfhkhnhcckajaaGreatDoorZ03
/- The program's orders in memory: the box, the row of places, the buckets; a bucket's value, the bucket behind another. Conditions: none beyond those typed. -/
namespace Go.Proofs.YtlfhkhnhcckajaaGreatDoor
open Go.ChangeShapes Go.WideShapes Go.ChangeAt Go.RowKit
set_option linter.unusedVariables false
set_option linter.unusedSimpArgs false
set_option maxRecDepth 100000

/-- A place in memory. -/
abbrev Plc := Bool × Int × Int
def encPl (r : Plc) : List Value := [.bool r.1, .int .i64 r.2.1, .int .i64 r.2.2]
def kPl : Kind Plc where
  ty := 125
  sl := 110
  k := 3
  by_ := 24
  zero := .agg #[.bool false, .int .i64 0, .int .i64 0]
  enc := encPl
  pos := by omega
  len := fun _ => rfl
  one := fun a u hu => by simp [encPl] at hu; rcases hu with rfl | rfl | rfl <;> rfl
  under := Tryz.underlying110
  info := by kernel_rfl
  zk := rfl
  small := by omega
/-- The order's box in block g, its N places, its buckets L. -/
structure RkB (c2 : Col) (w : World) (g u b N c gB f : Nat) (P : List Plc) (M : CSt (Int × Option Addr)) (L : List Bk) : Prop where
  box : BoxC c2 w g 16 #[.int .i64 u, .slice (some ⟨b, 0, none⟩) N c, .pointer (some ⟨gB, 0, none⟩)] 112
  row : OwnKc kPl c2 w 17 (.slice (some ⟨b, 0, none⟩) N c) P
  bks : Bks c2 w gB f M L
theorem bk_count (v : Int × Option Addr) (w : World) : (Instr.field 109 (.agg (VBb v)) 0).run Tryz.prog w = .ok (.int .u64 v.1) w := by kernel_rfl
theorem bk_list (v : Int × Option Addr) (w : World) : (Instr.field 109 (.agg (VBb v)) 1).run Tryz.prog w = .ok (.pointer v.2) w := by kernel_rfl
/-- The node of the last bucket; of the first one. -/
def endN (L : List Bk) : Int := match L.getLast? with | none => -1 | some e => (e.nd : Int)
def begN (L : List Bk) : Int := match L with | [] => -1 | e :: _ => (e.nd : Int)
section
variable {P' : Nat → Prop} {c2 c2' : Col} {w w' : World} {g u b N c gB f : Nat} {P : List Plc} {M : CSt (Int × Option Addr)} {L L1 L2 : List Bk} {e : Bk} {i : Nat} {r : Plc}
theorem RkB.keep (h : RkB c2 w g u b N c gB f P M L) (hs : StepC P' c2 w c2' w') (hP : ∀ c, 16 ≤ c → ¬ P' c) (h0 : ¬ P' 0) : RkB c2' w' g u b N c gB f P M L :=
  ⟨h.box.keep hs (hP _ (by omega)), h.row.keep hs (hP _ (by omega)), h.bks.keep hs (fun c hc => hP c (by omega)) h0⟩
theorem RkB.below (h : RkB c2 w g u b N c gB f P M L) (ht : Tidy c2 w) (hb : Below w.heap.size w w') : RkB c2 w' g u b N c gB f P M L := h.keep (P' := fun _ => False) (StepC.below ht hb) (fun _ _ h => h) (fun h => h)
theorem RkB.c0 (h : RkB c2 w g u b N c gB f P M L) : w.cell? ⟨g, 0, none⟩ = some (.int .i64 u) := h.box.cell 0 rfl
theorem RkB.c1 (h : RkB c2 w g u b N c gB f P M L) : w.cell? ⟨g, 1, none⟩ = some (.slice (some ⟨b, 0, none⟩) N c) := h.box.cell 1 rfl
theorem RkB.cB (h : RkB c2 w g u b N c gB f P M L) : w.cell? ⟨g, 2, none⟩ = some (.pointer (some ⟨gB, 0, none⟩)) := h.box.cell 2 rfl
theorem RkB.len (h : RkB c2 w g u b N c gB f P M L) : P.length = N := h.row.own.len
theorem RkB.cap (h : RkB c2 w g u b N c gB f P M L) : N ≤ c ∧ c ≤ 9223372036854775807 := ⟨h.row.own.reads.cap, h.row.own.reads.max⟩
theorem RkB.tab (h : RkB c2 w g u b N c gB f P M L) : TbC c2 w := by obtain ⟨_, _, _, _, _, _, _, _, X, _⟩ := h.bks.outer; exact X.tab
theorem RkB.at_ (h : RkB c2 w g u b N c gB f P M L) (hr : P[i]? = some r) :
    w.cell? ⟨b, i * 3, none⟩ = some (.bool r.1) ∧ w.cell? ⟨b, i * 3 + 1, none⟩ = some (.int .i64 r.2.1) ∧ w.cell? ⟨b, i * 3 + 2, none⟩ = some (.int .i64 r.2.2) ∧ ∀ z, w.frozen? ⟨b, z, none⟩ = false :=
  ⟨h.row.own.cell hr (i := 0) rfl, h.row.own.cell hr (i := 1) rfl, h.row.own.cell hr (i := 2) rfl, fun z => h.row.own.free z⟩
/-- A place is written. -/
theorem RkB.put (h : RkB c2 w g u b N c gB f P M L) (ht : Tidy c2 w) (hr : P[i]? = some r) (r' : Plc) :
    RkB c2 (((w.setCell ⟨b, i * 3, none⟩ (.bool r'.1)).setCell ⟨b, i * 3 + 1, none⟩ (.int .i64 r'.2.1)).setCell ⟨b, i * 3 + 2, none⟩ (.int .i64 r'.2.2)) g u b N c gB f (P.set i r') M L ∧
      StepC (fun d => d = 17) c2 w c2 (((w.setCell ⟨b, i * 3, none⟩ (.bool r'.1)).setCell ⟨b, i * 3 + 1, none⟩ (.int .i64 r'.2.1)).setCell ⟨b, i * 3 + 2, none⟩ (.int .i64 r'.2.2)) := by
  have hi := (List.getElem?_eq_some_iff.1 hr).1
  have hc := h.row.col.of
  have h0 := h.row.set (j := i) (i := 0) (a' := (r'.1, r.2)) (u := .bool r'.1) hr (by show 0 < 3; omega) rfl
  have a0 : (P.set i (r'.1, r.2))[i]? = some (r'.1, r.2) := by rw [List.getElem?_set, if_pos rfl, if_pos hi]
  have h1 := h0.set (j := i) (i := 1) (a' := (r'.1, r'.2.1, r.2.2)) (u := .int .i64 r'.2.1) a0 (by show 1 < 3; omega) rfl
  rw [List.set_set] at h1
  have a1 : (P.set i (r'.1, r'.2.1, r.2.2))[i]? = some (r'.1, r'.2.1, r.2.2) := by rw [List.getElem?_set, if_pos rfl, if_pos hi]
  have h2 := h1.set (j := i) (i := 2) (a' := r') (u := .int .i64 r'.2.2) a1 (by show 2 < 3; omega) rfl
  rw [List.set_set] at h2
  rw [show kPl.k = 3 from rfl, Nat.add_zero] at h2
  have s0 := StepC.set (P := fun d => d = 17) (a := ⟨b, i * 3, none⟩) ht hc (.bool r'.1)
  have s1 := StepC.set (P := fun d => d = 17) (a := ⟨b, i * 3 + 1, none⟩) s0.tidy hc (.int .i64 r'.2.1)
  have s2 := StepC.set (P := fun d => d = 17) (a := ⟨b, i * 3 + 2, none⟩) s1.tidy hc (.int .i64 r'.2.2)
  have sA := (s0.trans s1).trans s2
  exact ⟨⟨h.box.keep sA (by omega), h2, ⟨h.bks.outer.keep sA (fun c hc e => by have := hc.1; omega) (by omega), h.bks.rows, fun e he => (h.bks.inner e he).keep sA (fun c hc e' => by have := hc.1; unfold Bk.kk at this; omega) (by omega), h.bks.apart, h.bks.few⟩⟩, sA⟩
/-- The number of elements is written. -/
theorem RkB.cnt (h : RkB c2 w g u b N c gB f P M L) (ht : Tidy c2 w) (u' : Nat) :
    RkB c2 (w.setCell ⟨g, 0, none⟩ (.int .i64 u')) g u' b N c gB f P M L ∧ StepC (fun d => d = 16) c2 w c2 (w.setCell ⟨g, 0, none⟩ (.int .i64 u')) := by
  have sA : StepC (fun d => d = 16) c2 w c2 (w.setCell ⟨g, 0, none⟩ (.int .i64 u')) := StepC.set ht h.box.col _
  exact ⟨⟨h.box.put 0 (.int .i64 u'), h.row.keep sA (by omega), ⟨h.bks.outer.keep sA (fun c hc e => by have := hc.1; omega) (by omega), h.bks.rows, fun e he => (h.bks.inner e he).keep sA (fun c hc e' => by have := hc.1; unfold Bk.kk at this; omega) (by omega), h.bks.apart, h.bks.few⟩⟩, sA⟩
theorem Bks.nd_lt (h : Bks c2 w gB f M L) (he : e ∈ L) : e.nd < M.n := by
  obtain ⟨_, _, _, _, _, _, _, _, _, R⟩ := h.outer
  refine R.good.lt e.nd ?_
  have : M.nodes = L.map Bk.nd := by unfold CSt.nodes; rw [h.rows, List.map_map]; rfl
  rw [this]
  exact List.mem_map.2 ⟨e, he, rfl⟩
theorem Bks.n8 (h : Bks c2 w gB f M L) : M.n ≤ 8192 := by
  obtain ⟨_, _, _, _, _, _, _, _, _, R⟩ := h.outer
  exact R.good.n8
theorem j64_nd (h : Bks c2 w gB f M L) (he : e ∈ L) : J64 (e.nd : Int) := by
  have h1 := h.nd_lt he
  have h2 := h.n8
  unfold J64; omega
theorem end_nil : endN [] = -1 := rfl
theorem end_snoc : endN (L1 ++ [e]) = (e.nd : Int) := by unfold endN; rw [List.getLast?_concat]
theorem beg_cons : begN (e :: L2) = (e.nd : Int) := rfl
set_option maxHeartbeats 1000000 in
theorem bucket_any (H : RkB c2 w g u b N c gB f P M L) (ht : Tidy c2 w) (he : e ∈ L) :
    Calls Tryz.prog 76 #[.pointer (some ⟨g, 0, none⟩), .int .i64 (e.nd : Int)] w fun e' w' => e' = .returned (.agg (VBb e.val)) ∧ Below w.heap.size w w' := by
  have hz := j64_nd H.bks he
  have b1 : Below w.heap.size w (w.alloc (.cells #[.int .u64 0, .pointer none] 109)) := (Below.refl _ _).alloc (Nat.le_refl _) _
  have ht1 := ht.size b1.size
  have H1 := H.below ht b1
  have hV : M.value ((0, none) : Int × Option Addr) (e.nd : Int) = (e.val, 0) := by
    obtain ⟨L1, L2, rfl⟩ := List.append_of_mem he
    exact H.bks.place.2
  have hC := lvalueb_any H1.bks.outer ht1 hz
  rw [hV] at hC
  have x2 := H1.cB
  have X1 : BoxC c2 (w.alloc (.cells #[.int .u64 0, .pointer none] 109)) w.heap.size 0 (VBb ((0, none) : Int × Option Addr)) 109 := ⟨heap_alloc_new w _, ht _ (Nat.le_refl _)⟩
  obtain ⟨F, hF⟩ : ∃ F, e.val = F := ⟨_, rfl⟩
  obtain ⟨W1, hW1⟩ : ∃ W1, W1 = w.alloc (.cells #[.int .u64 0, .pointer none] 109) := ⟨_, rfl⟩
  obtain ⟨G, hG⟩ : ∃ G, w.heap.size = G := ⟨_, rfl⟩
  rw [hF] at hC ⊢
  rw [hG]
  rw [← hW1] at hC X1 ht1 b1
  rw [hG] at X1 b1
  have hGW : G < W1.heap.size := by rw [hW1, ← hG]; simp
  clear H H1 hV hF
  go_enter Tryz.func76, Tryz.ntmps76
  go_wp2_with fail
  rw [← hW1]
  clear hW1 x2
  refine hC.mono ?_
  rintro e w2 ⟨rfl, b2⟩
  have b3 : Below W1.heap.size W1 (w2.alloc (.cells (VBb F) 109)) := b2.alloc b2.size _
  have X3 : BoxC c2 (w2.alloc (.cells (VBb F) 109)) G 0 (VBb ((0, none) : Int × Option Addr)) 109 := X1.keep (P := fun _ => False) (StepC.below ht1 b3) (fun h => h)
  have X6 : BoxC c2 (w2.alloc (.cells (VBb F) 109)) w2.heap.size 0 (VBb F) 109 := ⟨heap_alloc_new w2 _, (ht1.size b2.size) _ (Nat.le_refl _)⟩
  have v0 : (w2.alloc (.cells (VBb F) 109)).cell? ⟨w2.heap.size, 0, none⟩ = some (.int .u64 F.1) := X6.cell 0 rfl
  have v1 : (w2.alloc (.cells (VBb F) 109)).cell? ⟨w2.heap.size, 1, none⟩ = some (.pointer F.2) := X6.cell 1 rfl
  have y0 : (w2.alloc (.cells (VBb F) 109)).cell? ⟨G, 0, none⟩ = some (.int .u64 0) := X3.cell 0 rfl
  have y1 : (w2.alloc (.cells (VBb F) 109)).cell? ⟨G, 1, none⟩ = some (.pointer none) := X3.cell 1 rfl
  have f0 := X3.free 0
  have f1 := X3.free 1
  have X4 := Lxb.vbox X3 (a := ((0, none) : Int × Option Addr)) F
  have HX := Lib.hid X4.heap
  have HB := Lib.hid (((b1.trans (b3.mono (Nat.le_of_lt hGW))).setCell (p := ⟨G, 0, none⟩) (Nat.le_refl _) (.int .u64 F.1)).setCell (p := ⟨G, 1, none⟩) (Nat.le_refl _) (.pointer F.2))
  clear X1 X3 X4 X6 b3 b2 b1 hC hG hGW
  go_wp2
  refine bodyPost_ret (results_cell_row rfl _ _ G _ _ (0, 0) _ rfl HX.out Tryz.underlying109 rfl (by kernel_rfl)) rfl ?_
  exact ⟨rfl, HB.out⟩
end
end Go.Proofs.YtlfhkhnhcckajaaGreatDoor

/- The program's orders: the bucket behind another, the last bucket with at most a count. Conditions: none beyond those typed. -/
namespace Go.Proofs.YtlfhkhnhcckajaaGreatDoor
open Go.ChangeShapes Go.WideShapes Go.ChangeAt Go.RowKit
set_option linter.unusedVariables false
set_option linter.unusedSimpArgs false
set_option maxRecDepth 100000

/-- How many buckets there are from this node on. -/
def restN (L : List Bk) (z : Int) : Nat := (L.dropWhile fun e => decide ((e.nd : Int) ≠ z)).length
section
variable {P' : Nat → Prop} {c2 c2' : Col} {w w' : World} {g u b N c gB f : Nat} {P : List Plc} {M : CSt (Int × Option Addr)} {L L1 L2 : List Bk} {e : Bk}
theorem Bks.nodes (h : Bks c2 w gB f M L) : M.nodes = L.map Bk.nd := by unfold CSt.nodes; rw [h.rows, List.map_map]; rfl
theorem Bks.nds (h : Bks c2 w gB f M L) : (L.map Bk.nd).Nodup := by
  rw [← h.nodes]
  obtain ⟨_, _, _, _, _, _, _, _, _, R⟩ := h.outer
  exact R.good.nd
theorem rest_at : ∀ {A B : List Bk}, ((A ++ B).map Bk.nd).Nodup → restN (A ++ B) (begN B) = B.length
  | [], [], _ => rfl
  | [], e :: B, _ => by unfold restN; rw [beg_cons, List.nil_append, List.dropWhile_cons_of_neg (by simp)]
  | a :: A, B, h => by
    rw [List.cons_append, List.map_cons, List.nodup_cons] at h
    have h1 : ((a.nd : Nat) : Int) ≠ begN B := by
      cases B with
      | nil => rw [show begN [] = -1 from rfl]; omega
      | cons e B => rw [beg_cons]; intro hx; exact h.1 (List.mem_map.2 ⟨e, by simp, by omega⟩)
    have h2 := rest_at h.2
    unfold restN at h2 ⊢
    rw [List.cons_append, List.dropWhile_cons_of_pos (by simpa using h1)]
    exact h2
theorem behind_any (H : RkB c2 w g u b N c gB f P M (L1 ++ L2)) (ht : Tidy c2 w) :
    Calls Tryz.prog 105 #[.pointer (some ⟨g, 0, none⟩), .int .i64 (endN L1)] w fun e' w' => e' = .returned (.int .i64 (begN L2)) ∧ ∃ j, w' = w.drewN j := by
  have x2 := H.cB
  rcases List.eq_nil_or_concat L1 with rfl | ⟨A, e, rfl⟩
  · rw [end_nil]
    have hC := lfirstb_any H.bks.outer
    rw [show M.first = begN L2 by rw [H.bks.first]; cases L2 <;> rfl] at hC
    generalize begN L2 = F at *
    clear H
    go_enter Tryz.func105, Tryz.ntmps105
    go_wp2_with fail
    refine hC.mono ?_
    rintro e w2 ⟨rfl, j, rfl⟩
    go_wp2
    go_ret
    exact ⟨rfl, j, rfl⟩
  · rw [List.concat_eq_append] at H ⊢
    rw [List.append_assoc, List.singleton_append] at H
    rw [end_snoc]
    have hC := lnextb_any H.bks.outer ht (j64_nd H.bks (show e ∈ A ++ e :: L2 by simp))
    rw [show M.by_ (e.nd : Int) 1 = begN L2 by rw [H.bks.by_.1]; cases L2 <;> rfl] at hC
    generalize begN L2 = F at *
    have hne : ((e.nd : Int) == -1) = false := by simp
    clear H
    generalize e.nd = q at *
    go_enter Tryz.func105, Tryz.ntmps105
    go_wp2_with fail
    refine hC.mono ?_
    rintro e w2 ⟨rfl, j, rfl⟩
    go_wp2
    go_ret
    exact ⟨rfl, j, rfl⟩
set_option maxHeartbeats 1000000 in
theorem last_any {x : Int} (H : RkB c2 w g u b N c gB f P M (L1 ++ L2)) (ht : Tidy c2 w) (hle : ∀ e ∈ L1, e.ct ≤ x) (hasc : (L1 ++ L2).Pairwise fun a b => a.ct < b.ct) :
    Calls Tryz.prog 89 #[.pointer (some ⟨g, 0, none⟩), .int .u64 x, .int .i64 (endN L1)] w fun e' w' => ∃ A B, e' = .returned (.int .i64 (endN A)) ∧ L1 ++ L2 = A ++ B ∧ (∀ e ∈ A, e.ct ≤ x) ∧ (∀ e ∈ B, x < e.ct) ∧ Below w.heap.size w w' := by
  obtain ⟨L, hL⟩ : ∃ L, L1 ++ L2 = L := ⟨_, rfl⟩
  have hB1 := behind_any H ht
  have HL := Lib.hid (And.intro hL hle)
  rw [hL] at H hasc ⊢
  have hnd := Lib.hid H.bks.nds
  have HH := Lib.hid H
  have hA := Lib.hid hasc
  obtain ⟨F1, hF1⟩ : ∃ F, endN L1 = F := ⟨_, rfl⟩
  obtain ⟨F2, hF2⟩ : ∃ F, begN L2 = F := ⟨_, rfl⟩
  rw [hF1] at hB1 ⊢
  rw [hF2] at hB1
  have hF := Lib.hid (And.intro hF1 hF2)
  clear hL hle H hasc hF1 hF2
  go_enter Tryz.func89, Tryz.ntmps89
  go_wp2_with fail
  refine hB1.mono ?_
  rintro e w2 ⟨rfl, j, rfl⟩
  have hBd := Lib.hid (show Below w.heap.size w (w.drewN j) from below_drewN (Below.refl _ _) j)
  clear hB1
  go_wp2
  go_loopw [7, 8] (fun av nv wr => ∃ A B, av = .int .i64 (endN A) ∧ nv = .int .i64 (begN B) ∧ L = A ++ B ∧ (∀ e ∈ A, e.ct ≤ x) ∧ Below w.heap.size w wr) (fun _ nv _ => restN L (intOf nv))
  case atStart => exact ⟨L1, L2, by rw [hF.out.1], by rw [hF.out.2], HL.out.1.symm, HL.out.2, hBd.out⟩
  case round =>
    obtain ⟨A, B, rfl, rfl, hLL, hA1, hb⟩ := hrel
    clear hBd
    cases B with
    | nil =>
      have HD := Lib.hid (show L = A ++ [] ∧ (∀ e ∈ A, e.ct ≤ x) from ⟨hLL, hA1⟩)
      rw [show begN ([] : List Bk) = -1 from rfl]
      clear hLL hA1
      go_wp2
      go_ret
      exact ⟨A, [], rfl, HD.out.1, HD.out.2, fun e he => (by cases he), hb⟩
    | cons e B =>
      rw [beg_cons]
      have heL : e ∈ L := by rw [hLL]; simp
      have Hw := HH.out.below ht hb
      have hC := bucket_any Hw (ht.size hb.size) heL
      have hneq : ((e.nd : Int) != -1) = true := by simp
      have hfc := bk_count e.val
      go_wp2_with fail
      refine hC.mono ?_
      rintro e' w3 ⟨rfl, b3⟩
      have b4 := below_then hb b3
      have HM := Lib.hid (show restN L (e.nd : Int) = B.length + 1 by
        have h1 := hnd.out
        rw [hLL] at h1 ⊢
        exact rest_at h1)
      by_cases hlt : e.ct ≤ x
      · have hlt' : e.val.1 ≤ x := hlt
        have H4 := HH.out.below ht b4
        rw [show L = (A ++ [e]) ++ B by rw [hLL]; simp] at H4
        have hN := behind_any H4 (ht.size b4.size)
        rw [end_snoc] at hN
        have HI := Lib.hid (show L = (A ++ [e]) ++ B ∧ (∀ e' ∈ A ++ [e], e'.ct ≤ x) from ⟨by rw [hLL]; simp, fun e' he' => by
          rcases List.mem_append.1 he' with h | h
          · exact hA1 e' h
          · rw [List.mem_singleton.1 h]; exact hlt⟩)
        have HM2 := Lib.hid (show restN L (begN B) = B.length by
          have h1 := hnd.out
          rw [HI.out.1] at h1 ⊢
          exact rest_at h1)
        have HE := Lib.hid (end_snoc (L1 := A) (e := e))
        obtain ⟨F, hFB⟩ : ∃ F, begN B = F := ⟨_, rfl⟩
        rw [hFB] at hN HM2
        have HF := Lib.hid hFB
        clear hLL hA1 Hw hC H4 heL hb b3 hFB
        go_wp2_with fail
        refine hN.mono ?_
        rintro e' w4 ⟨rfl, j4, rfl⟩
        have b5 := below_drewN b4 j4
        clear hN b4
        go_wp2
        go_roundw
        case rel => exact ⟨A ++ [e], B, by rw [HE.out], by rw [HF.out], HI.out.1, HI.out.2, b5⟩
        case measure => (show restN L F < restN L (e.nd : Int); rw [HM.out, HM2.out]; omega)
      · have hlt' : ¬ e.val.1 ≤ x := hlt
        have HD := Lib.hid (show L = A ++ e :: B ∧ (∀ e ∈ A, e.ct ≤ x) ∧ ∀ e' ∈ e :: B, x < e'.ct from ⟨hLL, hA1, fun e' he' => by
          have h1 := hA.out
          rw [hLL, List.pairwise_append] at h1
          rcases List.mem_cons.1 he' with rfl | h2
          · omega
          · have := (List.pairwise_cons.1 h1.2.1).1 e' h2
            omega⟩)
        clear hLL hA1 Hw hC heL b3
        go_wp2
        go_ret
        exact ⟨A, e :: B, rfl, HD.out.1, HD.out.2.1, HD.out.2.2, b4⟩
end
end Go.Proofs.YtlfhkhnhcckajaaGreatDoor

/- The program's orders: a new bucket. Conditions: none beyond those typed. -/
namespace Go.Proofs.YtlfhkhnhcckajaaGreatDoor
open Go.ChangeShapes Go.WideShapes Go.ChangeAt Go.RowKit
set_option linter.unusedVariables false
set_option linter.unusedSimpArgs false
set_option maxRecDepth 100000

section
variable {P' : Nat → Prop} {c2 c3 c4 : Col} {w w' w3 w5 : World} {g u b N c gB f q : Nat} {P : List Plc} {M : CSt (Int × Option Addr)} {L L1 L2 : List Bk} {e : Bk} {x : Int} {Q : CSt Int}
/-- A bucket comes in between. -/
theorem RkB.opened (H : RkB c3 w3 g u b N c gB f P M (L1 ++ L2)) (hq : PLi c3 (48 + 16 * f) w3 q Q) (hs : StepC (Rng 32) c3 w3 c4 w5) (hM : PLb c4 32 w5 gB (M.ins L1.length (x, some ⟨q, 0, none⟩)).2) (hr : M.l.length ≠ M.n) :
    ∃ nd : Nat, (M.ins L1.length (x, some ⟨q, 0, none⟩)).1 = ((nd : Int), 0) ∧ nd ∉ (L1 ++ L2).map Bk.nd ∧ (M.ins L1.length (x, some ⟨q, 0, none⟩)).2.n = M.n ∧ RkB c4 w5 g u b N c gB (f + 1) P (M.ins L1.length (x, some ⟨q, 0, none⟩)).2 (L1 ++ { nd := nd, ct := x, blk := q, cc := f, q := Q } :: L2) := by
  have hI : M.ins L1.length (x, some ⟨q, 0, none⟩) = ((((freeN M.nodes : Nat) : Int), 0), { M with l := insC M.l L1.length (x, some ⟨q, 0, none⟩) }) := by unfold CSt.ins; rw [if_neg hr]
  obtain ⟨h1, _, _⟩ := freeN_spec M.nodes
  rw [hI] at hM ⊢
  have hl : insC M.l L1.length (x, some ⟨q, 0, none⟩) = (L1 ++ { nd := freeN M.nodes, ct := x, blk := q, cc := f, q := Q } :: L2).map Bk.row := by
    unfold insC
    rw [show M.l.map Prod.fst = M.nodes from rfl, H.bks.rows, List.map_append, List.take_left' (by simp), List.drop_left' (by simp), List.map_append, List.map_cons]
    rfl
  have hfew : f ∉ (L1 ++ L2).map Bk.cc := fun hx => by
    obtain ⟨e, he, h2⟩ := List.mem_map.1 hx
    have := H.bks.few e he
    omega
  refine ⟨freeN M.nodes, rfl, by rw [← H.bks.nodes]; exact h1, rfl, H.box.keep hs (by unfold Rng; omega), H.row.keep hs (by unfold Rng; omega), Bks.out hM hs hl (fun e he => ?_) ?_ (fun e he => ?_)⟩
  · rcases mid_mem he with rfl | h
    · exact hq
    · exact H.bks.inner e h
  · rw [List.map_append, List.map_cons]
    refine (List.perm_middle (a := f) (l₁ := L1.map Bk.cc) (l₂ := L2.map Bk.cc)).nodup_iff.2 (List.nodup_cons.2 ⟨?_, ?_⟩)
    · rw [← List.map_append]; exact hfew
    · rw [← List.map_append]; exact H.bks.apart
  · rcases mid_mem he with rfl | h
    · show f < f + 1; omega
    · have := H.bks.few e h; omega
set_option maxHeartbeats 1000000 in
theorem open_any (H : RkB c2 w g u b N c gB f P M (L1 ++ L2)) (ht : Tidy c2 w) (hr : M.l.length ≠ M.n) (hN : 1 ≤ N ∧ N ≤ 8192) :
    Calls Tryz.prog 90 #[.pointer (some ⟨g, 0, none⟩), .int .u64 x, .int .i64 (endN L1)] w fun e' w' => ∃ (nd q : Nat) (M' : CSt (Int × Option Addr)) (c2' : Col), e' = .returned (.int .i64 (nd : Int)) ∧ nd ∉ (L1 ++ L2).map Bk.nd ∧ M'.n = M.n ∧
      RkB c2' w' g u b N c gB (f + 1) P M' (L1 ++ { nd := nd, ct := x, blk := q, cc := f, q := newC Int N } :: L2) ∧ StepC (fun c => 16 ≤ c) c2 w c2' w' := by
  have x1 := H.c1
  have hNe := lnewi_any (k := 48 + 16 * f) ht H.tab (by omega) (N : Int) (by unfold J64; omega)
  obtain ⟨F, hF⟩ : ∃ F, endN L1 = F := ⟨_, rfl⟩
  have hcase : (F = -1 ∧ L1.length = 0) ∨ (∃ (y : Nat) (i : Nat), F = (y : Int) ∧ placeC M.l (y : Int) = some i ∧ i + 1 = L1.length ∧ J64 (y : Int)) := by
    rcases List.eq_nil_or_concat L1 with rfl | ⟨A, e, rfl⟩
    · exact .inl ⟨hF.symm, rfl⟩
    · rw [List.concat_eq_append] at hF H ⊢
      rw [end_snoc] at hF
      rw [List.append_assoc, List.singleton_append] at H
      exact .inr ⟨e.nd, A.length, hF.symm, H.bks.place.1, by simp, j64_nd H.bks (by simp)⟩
  rw [hF]
  have HH := Lib.hid H
  clear hF H
  go_enter Tryz.func90, Tryz.ntmps90
  go_wp2_with fail
  refine hNe.mono ?_
  rintro e w2 (⟨_, q, rfl, c3, hq, s3⟩ | ⟨h0, _, _⟩)
  rotate_left
  · exact absurd h0 (by unfold lstE; rw [if_neg (by omega)]; decide)
  clear hNe x1
  rw [Int.toNat_natCast] at hq
  have H2 : RkB c3 w2 g u b N c gB f P M (L1 ++ L2) := ⟨HH.out.box.keep s3 (by unfold Rng; omega), HH.out.row.keep s3 (by unfold Rng; omega), HH.out.bks.fresh s3⟩
  have b3 : Below w2.heap.size w2 (w2.alloc (.cells (VBb (x, some ⟨q, 0, none⟩)) 109)) := (Below.refl _ _).alloc (Nat.le_refl _) _
  have t3 := s3.tidy
  have H3 := H2.below t3 b3
  have q3 := hq.below t3 b3
  have X3 : BoxC c3 (w2.alloc (.cells (VBb (x, some ⟨q, 0, none⟩)) 109)) w2.heap.size 0 (VBb (x, some ⟨q, 0, none⟩)) 109 := ⟨heap_alloc_new w2 _, t3 _ (Nat.le_refl _)⟩
  have t4 := t3.size b3.size
  have s4 : StepC (fun c => 16 ≤ c) c2 w c3 (w2.alloc (.cells (VBb (x, some ⟨q, 0, none⟩)) 109)) := (s3.mono (fun c hc => by have := hc.1; omega)).trans (StepC.below t3 b3)
  obtain ⟨G, hG⟩ : ∃ G, w2.heap.size = G := ⟨_, rfl⟩
  obtain ⟨W4, hW4⟩ : ∃ W, W = w2.alloc (.cells (VBb (x, some ⟨q, 0, none⟩)) 109) := ⟨_, rfl⟩
  rw [← hW4] at H3 q3 X3 t4 s4
  rw [hG] at X3
  have x2 := H3.cB
  have v0 : W4.cell? ⟨G, 0, none⟩ = some (.int .u64 x) := X3.cell 0 rfl
  have v1 : W4.cell? ⟨G, 1, none⟩ = some (.pointer (some ⟨q, 0, none⟩)) := X3.cell 1 rfl
  have hKS : ∀ (c5 : Col) (W : World), StepC (Rng 32) c3 W4.drew c5 W → W.cell? ⟨g, 2, none⟩ = some (.pointer (some ⟨gB, 0, none⟩)) ∧ W.cell? ⟨G, 0, none⟩ = some (.int .u64 x) ∧ W.cell? ⟨G, 1, none⟩ = some (.pointer (some ⟨q, 0, none⟩)) := fun c5 W s => by
    have hg : ¬ Rng 32 (c3 g) := by rw [H3.box.col]; unfold Rng; omega
    have hG0 : ¬ Rng 32 (c3 G) := by rw [X3.col]; unfold Rng; omega
    exact ⟨s.cell (a := ⟨g, 2, none⟩) x2 hg, s.cell (a := ⟨G, 0, none⟩) v0 hG0, s.cell (a := ⟨G, 1, none⟩) v1 hG0⟩
  have HO : ∀ (c5 : Col) (W : World), PLb c5 32 W gB (M.ins L1.length (x, some ⟨q, 0, none⟩)).2 → StepC (Rng 32) c3 W4.drew c5 W → ∃ (nd q' : Nat) (M' : CSt (Int × Option Addr)) (c2' : Col), (M.ins L1.length (x, some ⟨q, 0, none⟩)).1.1 = (nd : Int) ∧ nd ∉ (L1 ++ L2).map Bk.nd ∧ M'.n = M.n ∧
      RkB c2' W g u b N c gB (f + 1) P M' (L1 ++ { nd := nd, ct := x, blk := q', cc := f, q := newC Int N } :: L2) ∧ StepC (fun c => 16 ≤ c) c2 w c2' W := fun c5 W hM s => by
    have hb : Below W4.heap.size W4 W4.drew := (Below.refl _ _).drew
    obtain ⟨nd, h1, h2, h3, h4⟩ := (H3.below t4 hb).opened (q3.below t4 hb) s hM hr
    exact ⟨nd, q, _, c5, by rw [h1], h2, h3, h4, (s4.trans (StepC.below t4 hb)).trans (s.mono (fun c hc => by have := hc.1; omega))⟩
  have PO := H3.bks.outer.below t4 (show Below W4.heap.size W4 W4.drew from (Below.refl _ _).drew)
  have t4d : Tidy c3 W4.drew := t4
  have hCF : L1.length = 0 → _ := fun h => lpushFb_any PO t4d (x, some ⟨q, 0, none⟩)
  have hCA := fun y : Int => fun hJ : J64 y => linsAb_any PO t4d hJ (x, some ⟨q, 0, none⟩)
  have hPF : L1.length = 0 → M.pushF (x, some ⟨q, 0, none⟩) = M.ins L1.length (x, some ⟨q, 0, none⟩) := fun h => by rw [h]; rfl
  have hPA : ∀ (y : Nat) (i : Nat), placeC M.l (y : Int) = some i → i + 1 = L1.length → M.insA (y : Int) (x, some ⟨q, 0, none⟩) = M.ins L1.length (x, some ⟨q, 0, none⟩) := fun y i hp hi => by rw [← hi]; unfold CSt.insA; rw [hp]
  generalize M.ins L1.length (x, some ⟨q, 0, none⟩) = r at *
  have hHO := Lib.hid HO
  clear HO H2 H3 hq q3 X3 s3 t3 b3 s4 t4 HH
  rcases hcase with ⟨rfl, hlen⟩ | ⟨y, i, rfl, hpl, hi, hJ⟩
  · have hC := hCF hlen
    rw [hPF hlen] at hC
    clear hlen hCF hCA hPF hPA
    go_wp2_with fail
    rw [← hW4]
    clear hW4
    go_region_held3 (fun W => W.cell? ⟨g, 2, none⟩ = some (.pointer (some ⟨gB, 0, none⟩)) ∧ W.cell? ⟨G, 0, none⟩ = some (.int .u64 x) ∧ W.cell? ⟨G, 1, none⟩ = some (.pointer (some ⟨q, 0, none⟩))) (first | exact ⟨x2, v0, v1⟩ | assumption) ((go_at_call 107; refine hC.mono ?_; rintro e w5 ⟨rfl, c5, hM5, s5⟩; have S5 := hKS _ _ s5; have HD := Lib.hid (hHO.out c5 w5 hM5 s5); clear hM5 s5))
    all_goals
      clear hC hKS PO hHO
      go_wp2
      go_ret
      obtain ⟨nd, q2, M2, c6, h1, h2, h3, h4, h5⟩ := HD.out
      exact ⟨nd, q2, M2, c6, by rw [h1]; rfl, h2, h3, h4, h5⟩
  · have hC := hCA (y : Int) hJ
    rw [hPA y i hpl hi] at hC
    clear hpl hi hJ hCF hCA hPF hPA
    go_wp2_with fail
    rw [← hW4]
    clear hW4
    go_region_held3 (fun W => W.cell? ⟨g, 2, none⟩ = some (.pointer (some ⟨gB, 0, none⟩)) ∧ W.cell? ⟨G, 0, none⟩ = some (.int .u64 x) ∧ W.cell? ⟨G, 1, none⟩ = some (.pointer (some ⟨q, 0, none⟩))) (first | exact ⟨x2, v0, v1⟩ | assumption) ((go_at_call 108; refine hC.mono ?_; rintro e w5 ⟨rfl, c5, hM5, s5⟩; have S5 := hKS _ _ s5; have HD := Lib.hid (hHO.out c5 w5 hM5 s5); clear hM5 s5))
    all_goals
      clear hC hKS PO hHO
      go_wp2
      go_ret
      obtain ⟨nd, q2, M2, c6, h1, h2, h3, h4, h5⟩ := HD.out
      exact ⟨nd, q2, M2, c6, by rw [h1]; rfl, h2, h3, h4, h5⟩
end
end Go.Proofs.YtlfhkhnhcckajaaGreatDoor

/- The program's orders: an element is taken out of its bucket. Conditions: none beyond those typed. -/
namespace Go.Proofs.YtlfhkhnhcckajaaGreatDoor
open Go.ChangeShapes Go.WideShapes Go.ChangeAt Go.RowKit
set_option linter.unusedVariables false
set_option linter.unusedSimpArgs false
set_option maxRecDepth 100000

/-- The place of an element, as it lies in memory. -/
def plc (loc : Loc) (i : Nat) : Plc := match loc i with | none => (false, 0, 0) | some (b, k) => (true, (b : Int), (k : Int))
/-- The order m in block g. -/
def RkS (c2 : Col) (w : World) (g : Nat) (m : CSt Int) (L : List Bk) (loc : Loc) : Prop := ∃ (b N c gB f : Nat) (M : CSt (Int × Option Addr)),
  RkB c2 w g m.l.length b N c gB f ((List.range m.n).map (plc loc)) M L ∧ RkI m L loc ∧ M.n = m.n
section
variable {P' : Nat → Prop} {c2 c3 c4 : Col} {w w' w3 w5 : World} {g u b N c gB f q id k bn : Nat} {P : List Plc} {m : CSt Int} {M : CSt (Int × Option Addr)} {L L1 L2 : List Bk} {e : Bk} {x : Int} {loc : Loc} {v : Option (Nat × Nat)}
theorem plc_set (n : Nat) (h : id < n) : ((List.range n).map (plc loc)).set id (plc (locSet loc id v) id) = (List.range n).map (plc (locSet loc id v)) := by
  refine List.ext_getElem? fun i => ?_
  rw [List.getElem?_set, List.getElem?_map, List.getElem?_map]
  by_cases hi : id = i
  · subst hi
    rw [if_pos rfl, List.length_map, List.length_range, if_pos h, List.getElem?_range h]
    rfl
  · rw [if_neg hi]
    cases hr : (List.range n)[i]? with
    | none => rfl
    | some j =>
      have hj : j = i := by
        obtain ⟨h1, h2⟩ := List.getElem?_eq_some_iff.1 hr
        simpa using h2.symm
      subst hj
      show some (plc loc j) = some (plc (locSet loc id v) j)
      unfold plc locSet
      rw [if_neg (fun e => hi e.symm)]
theorem plc_at (n : Nat) (h : id < n) : ((List.range n).map (plc loc))[id]? = some (plc loc id) := by
  rw [List.getElem?_map, List.getElem?_range h]; rfl
/-- A bucket goes. -/
theorem Bks.gone (H : Bks c2 w gB f M (L1 ++ e :: L2)) (hs : StepC (Rng 32) c2 w c3 w') (hM : PLb c3 32 w' gB (M.rem (e.nd : Int))) : Bks c3 w' gB f (M.rem (e.nd : Int)) (L1 ++ L2) ∧ (M.rem (e.nd : Int)).n = M.n := by
  have hp := H.place.1
  have hR : M.rem (e.nd : Int) = { M with l := remC M.l L1.length } := by unfold CSt.rem; rw [hp]
  rw [hR] at hM ⊢
  have ha := H.apart
  rw [List.map_append, List.map_cons] at ha
  have h1 := (List.perm_middle (a := e.cc) (l₁ := L1.map Bk.cc) (l₂ := L2.map Bk.cc)).nodup_iff.1 ha
  refine ⟨Bks.out hM hs ?_ (fun e' he' => H.inner e' (mem_mid he' e)) (by rw [List.map_append]; exact (List.nodup_cons.1 h1).2) (fun e' he' => H.few e' (mem_mid he' e)), rfl⟩
  show remC M.l L1.length = _
  unfold remC
  rw [H.rows, List.map_append, List.take_left' (by simp), List.map_cons, show L1.map Bk.row ++ e.row :: L2.map Bk.row = (L1.map Bk.row ++ [e.row]) ++ L2.map Bk.row by simp, List.drop_left' (by simp), List.map_append]
theorem RkI.idlt (R : RkI m L loc) (hl : loc id = some (bn, k)) : id < m.n := R.good.c.lt id ((R.mem id).2 (by rw [hl]; rfl))
theorem RkI.remlen (R : RkI m L loc) (hl : loc id = some (bn, k)) : (m.rem (id : Int)).l.length + 1 = m.l.length ∧ (m.rem (id : Int)).n = m.n := by
  have h1 : (placeC m.l (id : Int)).isSome = true := by rw [R.has, hl]; rfl
  obtain ⟨i, hi⟩ := Option.isSome_iff_exists.1 h1
  obtain ⟨p, hp, _, _⟩ := place_some hi
  have hlt := (List.getElem?_eq_some_iff.1 hp).1
  unfold CSt.rem
  rw [hi]
  exact ⟨by show (remC m.l i).length + 1 = _; unfold remC; rw [List.length_append, List.length_take, List.length_drop]; omega, rfl⟩
/-- What is left of the order. -/
def TookR (c2 : Col) (w : World) (g : Nat) (m : CSt Int) (loc : Loc) (id : Nat) (z : Int) (w' : World) : Prop :=
  ∃ (A B : List Bk) (c2' : Col), z = endN A ∧ RkS c2' w' g (m.rem (id : Int)) (A ++ B) (locSet loc id none) ∧ (∀ e ∈ A, e.ct ≤ (m.value 0 (id : Int)).1) ∧ StepC (fun c => 16 ≤ c) c2 w c2' w'
set_option maxHeartbeats 2000000 in
theorem rtake_any (S : RkS c2 w g m L loc) (ht : Tidy c2 w) (hl : loc id = some (bn, k)) :
    Calls Tryz.prog 73 #[.pointer (some ⟨g, 0, none⟩), .int .i64 (id : Int)] w fun e' w' => ∃ z, e' = .returned (.int .i64 z) ∧ TookR c2 w g m loc id z w' := by
  obtain ⟨b, N, c, gB, f, M, H, R, hMn⟩ := S
  obtain ⟨L1, e, L2, K1, K2, rfl, rfl, hK⟩ := R.split hl
  have hid := R.idlt hl
  obtain ⟨hr1, hr2⟩ := R.remlen hl
  have hn8 := R.good.c.n8
  obtain ⟨T1, T2, T3⟩ := R.take hK
  have hval := (R.count hK).1
  have hlen := H.len
  rw [List.length_map, List.length_range] at hlen
  obtain ⟨hcp, hcm⟩ := H.cap
  have hat := plc_at (loc := loc) m.n hid
  have hpl : plc loc id = (true, (e.nd : Int), (k : Int)) := by unfold plc; rw [hl]
  rw [hpl] at hat
  have x1 := H.c1
  obtain ⟨y0, y1, y2, _⟩ := H.at_ hat
  have b1 : Below w.heap.size w (w.alloc (.cells #[.bool true, .int .i64 (e.nd : Int), .int .i64 (k : Int)] 125)) := (Below.refl _ _).alloc (Nat.le_refl _) _
  have H1 := H.below ht b1
  have t1 := ht.size b1.size
  have X1 : BoxC c2 (w.alloc (.cells #[.bool true, .int .i64 (e.nd : Int), .int .i64 (k : Int)] 125)) w.heap.size 0 #[.bool true, .int .i64 (e.nd : Int), .int .i64 (k : Int)] 125 := ⟨heap_alloc_new w _, ht _ (Nat.le_refl _)⟩
  have x1' := H1.c1
  obtain ⟨y0', y1', y2', fz⟩ := H1.at_ hat
  have fz0 := fz (id * 3)
  have fz1 := fz (id * 3 + 1)
  have fz2 := fz (id * 3 + 2)
  obtain ⟨H2, s2⟩ := H1.put t1 hat (false, 0, 0)
  have hset := plc_set (loc := loc) (v := none) m.n hid
  rw [show plc (locSet loc id none) id = (false, 0, 0) by unfold plc locSet; rw [if_pos rfl]] at hset
  rw [hset] at H2
  have x0 := H2.c0
  have f0 := H2.box.free 0
  obtain ⟨u1, hu1⟩ : ∃ u1, (m.rem (id : Int)).l.length = u1 := ⟨_, rfl⟩
  have hwu : IntKind.i64.wrap ((m.l.length : Int) - 1) = (u1 : Int) := by
    have := R.good.c.len
    rw [IntKind.wrap_i64]; omega
  obtain ⟨H3, s3⟩ := H2.cnt s2.tidy u1
  have sA : StepC (fun c => 16 ≤ c) c2 w c2 _ := (StepC.below ht b1).trans ((s2.mono (P' := fun c => 16 ≤ c) (fun c hc => by omega)).trans (s3.mono (fun c hc => by omega)))
  have X3 := (X1.keep s2 (by omega)).keep s3 (by omega)
  have t3 := s3.tidy
  have v1 := X3.cell 1 rfl
  have hIdI : (id : Int) < (N : Int) := by omega
  obtain ⟨G, hG⟩ : ∃ G, w.heap.size = G := ⟨_, rfl⟩
  rw [hG] at X3 v1
  obtain ⟨W3, hW3⟩ : ∃ W, W = ((((w.alloc (.cells #[.bool true, .int .i64 (e.nd : Int), .int .i64 (k : Int)] 125)).setCell ⟨b, id * 3, none⟩ (.bool false)).setCell ⟨b, id * 3 + 1, none⟩ (.int .i64 0)).setCell ⟨b, id * 3 + 2, none⟩ (.int .i64 0)).setCell ⟨g, 0, none⟩ (.int .i64 (u1 : Int)) := ⟨_, rfl⟩
  have hC1 := bucket_any H3 t3 (e := e) (by simp)
  simp only [] at H3 sA X3 t3 hC1
  rw [← hW3] at H3 sA X3 t3 hC1
  have HH3 := Lib.hid (And.intro H3 (And.intro X3 (And.intro sA t3)))
  have HT := Lib.hid (And.intro T1 (And.intro T2 T3))
  have hkJ : J64 (k : Int) := by
    have h1 := (R.qs e (by simp)).lt k (List.mem_map.2 ⟨(k, (id : Int)), by rw [hK]; simp, rfl⟩)
    have h2 := R.size e (by simp)
    unfold J64; omega
  have hnJ := j64_nd H3.bks (e := e) (by simp)
  obtain ⟨F, hF⟩ : ∃ F, e.val = F := ⟨_, rfl⟩
  have hF2 := Lib.hid (show F.2 = some ⟨e.blk, 0, none⟩ by rw [← hF]; rfl)
  rw [hF] at hC1
  have HR := Lib.hid (And.intro R (And.intro hK (And.intro hMn (And.intro hval hr2))))
  clear H H1 H2 H3 X1 X3 sA s2 s3 t1 t3 T1 T2 T3 R hK hset hat hpl fz b1 hval hr1 hr2 hMn hF
  go_enter Tryz.func73, Tryz.ntmps73
  go_wp2_with fail
  rw [← hW3]
  clear hW3 x1' y0' y1' y2' fz0 fz1 fz2 f0 hG x1 y0 y1 y2
  refine hC1.mono ?_
  rintro e' w4 ⟨rfl, b4⟩
  clear hC1
  obtain ⟨H3, X3, sA, t3⟩ := HH3.out
  have b5 : Below W3.heap.size W3 (w4.alloc (.cells (VBb F) 109)) := b4.alloc b4.size _
  have H5 := H3.below t3 b5
  have X5 := X3.keep (P := fun _ => False) (StepC.below t3 b5) (fun h => h)
  have Y5 : BoxC c2 (w4.alloc (.cells (VBb F) 109)) w4.heap.size 0 (VBb F) 109 := ⟨heap_alloc_new w4 _, (t3.size b4.size) _ (Nat.le_refl _)⟩
  have t5 := t3.size b5.size
  have s5 := sA.trans (StepC.below t3 b5)
  obtain ⟨G2, hG2⟩ : ∃ G, w4.heap.size = G := ⟨_, rfl⟩
  rw [hG2] at Y5
  have z1 : (w4.alloc (.cells (VBb F) 109)).cell? ⟨G, 2, none⟩ = some (.int .i64 (k : Int)) := X5.cell 2 rfl
  have z2 : (w4.alloc (.cells (VBb F) 109)).cell? ⟨G2, 1, none⟩ = some (.pointer F.2) := Y5.cell 1 rfl
  rw [hF2.out] at z2
  have hC2 := lremi_any (H5.bks.inner e (by simp)) t5 hkJ
  obtain ⟨W5, hW5⟩ : ∃ W, W = w4.alloc (.cells (VBb F) 109) := ⟨_, rfl⟩
  rw [← hW5] at hC2 t5 s5 H5 X5 Y5
  have HH5 := Lib.hid (And.intro H5 (And.intro X5 (And.intro Y5 (And.intro s5 t5))))
  clear H3 X3 sA t3 b5 b4 H5 X5 Y5 s5 t5 HH3
  go_wp2_with fail
  rw [← hW5]
  clear hW5 z1 z2 v1 hG2
  refine hC2.mono ?_
  rintro e' w6 ⟨rfl, c6, hq6, s6⟩
  clear hC2
  obtain ⟨H5, X5, Y5, s5, t5⟩ := HH5.out
  have H6 : RkB c6 w6 g u1 b N c gB f _ M (L1 ++ { e with q := e.q.rem (k : Int) } :: L2) := ⟨H5.box.keep s6 (by unfold Rng Bk.kk; omega), H5.row.keep s6 (by unfold Rng Bk.kk; omega), H5.bks.inn hq6 s6⟩
  have X6 := X5.keep s6 (rng0 (kk_pos e))
  have Y6 := Y5.keep s6 (rng0 (kk_pos e))
  have S6 := s5.trans (s6.mono (fun c hc => by have := hc.1; unfold Bk.kk at this; omega))
  have z2 : w6.cell? ⟨G2, 1, none⟩ = some (.pointer F.2) := Y6.cell 1 rfl
  rw [hF2.out] at z2
  have hC3 := lleni_any hq6
  have z1 : w6.cell? ⟨G, 1, none⟩ = some (.int .i64 (e.nd : Int)) := X6.cell 1 rfl
  obtain ⟨n6, hn6⟩ : ∃ n, (e.q.rem (k : Int)).l.length = n := ⟨_, rfl⟩
  rw [hn6] at hC3
  have hn6' : n6 = (K1 ++ K2).length := by rw [← hn6, HT.out.1]
  clear H5 X5 Y5 s5 t5 HH5 hq6 Y6
  go_wp2_with fail
  refine hC3.mono ?_
  rintro e' w7 ⟨rfl, hw7⟩
  subst hw7
  clear hC3
  by_cases h0 : K1 ++ K2 = []
  rotate_left
  · have hpos : (0 : Int) < (n6 : Int) := by
      have : (K1 ++ K2).length ≠ 0 := fun h => h0 (List.eq_nil_of_length_eq_zero h)
      omega
    have HD := Lib.hid (show TookR c2 w g m loc id (e.nd : Int) w6 from by
      obtain ⟨R, hK, hMn, hval, hr2⟩ := HR.out
      have hasc := R.asc
      rw [List.pairwise_append] at hasc
      refine ⟨L1 ++ [{ e with q := e.q.rem (k : Int) }], L2, c6, (end_snoc (e := { e with q := e.q.rem (k : Int) })).symm, ⟨b, N, c, gB, f, M, ?_, ?_, by rw [hMn, hr2]⟩, fun x hx => ?_, S6⟩
      · rw [hu1, hr2, List.append_assoc, List.singleton_append]
        exact H6
      · rw [List.append_assoc, List.singleton_append]
        exact HT.out.2.1 h0
      · rw [hval]
        rcases List.mem_append.1 hx with h | h
        · exact Int.le_of_lt (hasc.2.2 x h e (by simp))
        · rw [List.mem_singleton.1 h]; exact Int.le_refl _)
    clear H6 X6 S6 HT HR h0 hn6 hn6' s6
    go_wp2
    go_ret
    exact ⟨_, rfl, HD.out⟩
  · have hpos : ¬ (0 : Int) < (n6 : Int) := by rw [h0] at hn6'; simp at hn6'; omega
    have x2 := H6.cB
    have bd : Below w6.heap.size w6 w6.drew := (Below.refl _ _).drew
    have hP := lprevb_any (H6.bks.outer.below s6.tidy bd) (show Tidy c6 w6.drew from s6.tidy) hnJ
    rw [show M.by_ (e.nd : Int) (-1) = endN L1 from H6.bks.by_.2] at hP
    have hRm := fun (W : World) (hb : Below w6.heap.size w6 W) => lremb_any (H6.bks.outer.below s6.tidy hb) (s6.tidy.size hb.size) hnJ
    have hg : ¬ Rng 32 (c6 g) := by rw [H6.box.col]; unfold Rng; omega
    have hG0 : ¬ Rng 32 (c6 G) := by rw [X6.col]; unfold Rng; omega
    have HD : ∀ (W : World) (c8 : Col) (W8 : World), Below w6.heap.size w6 W → PLb c8 32 W8 gB (M.rem (e.nd : Int)) → StepC (Rng 32) c6 W c8 W8 → TookR c2 w g m loc id (endN L1) W8 := fun W c8 W8 hb hM8 s8 => by
      obtain ⟨R, hK, hMn, hval, hr2⟩ := HR.out
      have hasc := R.asc
      rw [List.pairwise_append] at hasc
      have H7 := H6.below s6.tidy hb
      obtain ⟨h1, h2⟩ := H7.bks.gone s8 hM8
      refine ⟨L1, L2, c8, rfl, ⟨b, N, c, gB, f, M.rem (e.nd : Int), ⟨?_, ?_, h1⟩, HT.out.2.2 h0, by rw [h2, hMn, hr2]⟩, fun x hx => ?_, (S6.trans (StepC.below s6.tidy hb)).trans (s8.mono (fun c hc => by have := hc.1; omega))⟩
      · rw [hu1]
        exact H7.box.keep s8 (by unfold Rng; omega)
      · rw [hr2]
        exact H7.row.keep s8 (by unfold Rng; omega)
      · rw [hval]
        exact Int.le_of_lt (hasc.2.2 x hx e (by simp))
    have HK : ∀ (W : World) (c8 : Col) (W8 : World), Below w6.heap.size w6 W → StepC (Rng 32) c6 W c8 W8 → W8.cell? ⟨g, 2, none⟩ = some (.pointer (some ⟨gB, 0, none⟩)) ∧ W8.cell? ⟨G, 1, none⟩ = some (.int .i64 (e.nd : Int)) := fun W c8 W8 hb s8 =>
      ⟨s8.cell (a := ⟨g, 2, none⟩) (H6.below s6.tidy hb).cB hg, s8.cell (a := ⟨G, 1, none⟩) ((X6.keep (P := fun _ => False) (StepC.below s6.tidy hb) (fun h => h)).cell 1 rfl) hG0⟩
    have HDD := Lib.hid HD
    have HKK := Lib.hid HK
    clear HD HK H6 X6 S6 HT HR h0 hn6 hn6' hg hG0 hF2 z2
    generalize endN L1 = E1 at *
    go_wp2_with fail
    go_region_held3 (fun W => W.cell? ⟨g, 2, none⟩ = some (.pointer (some ⟨gB, 0, none⟩)) ∧ W.cell? ⟨G, 1, none⟩ = some (.int .i64 (e.nd : Int))) (first | exact ⟨x2, z1⟩ | assumption) ((go_at_call 87; refine hP.mono ?_; rintro e' w8 ⟨rfl, j, rfl⟩))
    all_goals
      clear hP
      have b8 : ∀ n, Below w6.heap.size w6 (w6.drewN n) := fun n => below_drewN (Below.refl _ _) n
      have hR8 := fun n => hRm _ (b8 n)
      clear hRm
      go_wp2_with fail
      go_region_held3 (fun W => W.cell? ⟨g, 2, none⟩ = some (.pointer (some ⟨gB, 0, none⟩)) ∧ W.cell? ⟨G, 1, none⟩ = some (.int .i64 (e.nd : Int))) (first | exact ⟨x2, z1⟩ | assumption) ((go_at_call 88; refine (hR8 _).mono ?_; rintro e' w9 ⟨rfl, c9, hM9, s9⟩; have S9 := HKK.out _ c9 w9 (b8 _) s9; have HD := Lib.hid (HDD.out _ c9 w9 (b8 _) hM9 s9); clear hM9 s9))
      all_goals
        clear hR8 HDD HKK
        go_wp2
        go_ret
        exact ⟨_, rfl, HD.out⟩
end
end Go.Proofs.YtlfhkhnhcckajaaGreatDoor

/- The program's orders: an element comes into its bucket. Conditions: none beyond those typed. -/
namespace Go.Proofs.YtlfhkhnhcckajaaGreatDoor
open Go.ChangeShapes Go.WideShapes Go.ChangeAt Go.RowKit
set_option linter.unusedVariables false
set_option linter.unusedSimpArgs false
set_option maxRecDepth 100000

section
variable {P' : Nat → Prop} {c2 c3 c4 : Col} {w w' w3 w5 : World} {g u b N c gB f q id k bn nd x0 u1 : Nat} {P : List Plc} {m : CSt Int} {M : CSt (Int × Option Addr)} {L L1 L2 : List Bk} {e : Bk} {x : Int} {loc : Loc} {v : Option (Nat × Nat)}
/-- A place and the number of elements are written. -/
theorem RkB.placed (H : RkB c2 w g u b N c gB f ((List.range m.n).map (plc loc)) M L) (ht : Tidy c2 w) (hid : id < m.n) (nd x0 u1 : Nat) :
    RkB c2 ((((w.setCell ⟨b, id * 3, none⟩ (.bool true)).setCell ⟨b, id * 3 + 1, none⟩ (.int .i64 (nd : Int))).setCell ⟨b, id * 3 + 2, none⟩ (.int .i64 (x0 : Int))).setCell ⟨g, 0, none⟩ (.int .i64 (u1 : Int))) g u1 b N c gB f ((List.range m.n).map (plc (locSet loc id (some (nd, x0))))) M L ∧
      StepC (fun c => 16 ≤ c) c2 w c2 ((((w.setCell ⟨b, id * 3, none⟩ (.bool true)).setCell ⟨b, id * 3 + 1, none⟩ (.int .i64 (nd : Int))).setCell ⟨b, id * 3 + 2, none⟩ (.int .i64 (x0 : Int))).setCell ⟨g, 0, none⟩ (.int .i64 (u1 : Int))) ∧
      (((w.setCell ⟨b, id * 3, none⟩ (.bool true)).setCell ⟨b, id * 3 + 1, none⟩ (.int .i64 (nd : Int))).setCell ⟨b, id * 3 + 2, none⟩ (.int .i64 (x0 : Int))).cell? ⟨g, 0, none⟩ = some (.int .i64 u) ∧
      (((w.setCell ⟨b, id * 3, none⟩ (.bool true)).setCell ⟨b, id * 3 + 1, none⟩ (.int .i64 (nd : Int))).setCell ⟨b, id * 3 + 2, none⟩ (.int .i64 (x0 : Int))).frozen? ⟨g, 0, none⟩ = false := by
  have hat := plc_at (loc := loc) m.n hid
  obtain ⟨H2, s2⟩ := H.put ht hat (true, (nd : Int), (x0 : Int))
  have hset := plc_set (loc := loc) (v := some (nd, x0)) m.n hid
  rw [show plc (locSet loc id (some (nd, x0))) id = (true, (nd : Int), (x0 : Int)) by unfold plc locSet; rw [if_pos rfl]] at hset
  rw [hset] at H2
  obtain ⟨H3, s3⟩ := H2.cnt s2.tidy u1
  exact ⟨H3, (s2.mono (P' := fun c => 16 ≤ c) (fun c hc => by omega)).trans (s3.mono (fun c hc => by omega)), H2.c0, H2.box.free 0⟩
/-- An element has come. -/
def PutR (c2 : Col) (w : World) (g : Nat) (m : CSt Int) (id : Nat) (x : Int) (w' : World) : Prop :=
  ∃ (c2' : Col) (L' : List Bk) (loc' : Loc), RkS c2' w' g { m with l := putR m.l id x } L' loc' ∧ StepC (fun c => 16 ≤ c) c2 w c2' w'
theorem RkB.toPut {c5 : Col} {W : World} {L' : List Bk} {loc' : Loc} (H : RkB c5 W g u1 b N c gB f ((List.range m.n).map (plc loc')) M L') (hput : (putR m.l id x).length = u1) (hRk : RkI { m with l := putR m.l id x } L' loc') (hMn : M.n = m.n) (S : StepC (fun c => 16 ≤ c) c2 w c5 W) : PutR c2 w g m id x W :=
  ⟨c5, L', loc', ⟨b, N, c, gB, f, M, by rw [show ({ m with l := putR m.l id x } : CSt Int).l.length = u1 from hput]; exact H, hRk, hMn⟩, S⟩
set_option maxHeartbeats 4000000 in
theorem rput_any (S : RkS c2 w g m (L1 ++ L2) loc) (ht : Tidy c2 w) (hno : loc id = none) (hid : id < m.n) (h0x : 0 ≤ x) (hx8 : x ≤ 9223372036854775808) (hle : ∀ e ∈ L1, e.ct ≤ x) :
    Calls Tryz.prog 74 #[.pointer (some ⟨g, 0, none⟩), .int .i64 (id : Int), .int .u64 x, .int .i64 (endN L1)] w fun e' w' => e' = .returned (.tuple #[]) ∧ PutR c2 w g m id x w' := by
  obtain ⟨b, N, c, gB, f, M, H, R, hMn⟩ := S
  have hC1 := last_any H ht hle R.asc
  have hn8 := R.good.c.n8
  have hn1 := R.good.c.n1
  have hlen := H.len
  rw [List.length_map, List.length_range] at hlen
  obtain ⟨hcp, hcm⟩ := H.cap
  have hIdI : (id : Int) < (N : Int) := by omega
  have hN1 := Lib.hid (show 1 ≤ N ∧ N ≤ 8192 by omega)
  have hnn : newC Int N = newC Int m.n := by rw [hlen]
  have hml := R.good.c.len
  obtain ⟨u1, hu1⟩ : ∃ u1, m.l.length + 1 = u1 := ⟨_, rfl⟩
  have hwu : IntKind.i64.wrap ((m.l.length : Int) + 1) = (u1 : Int) := by rw [IntKind.wrap_i64]; omega
  have hput : (putR m.l id x).length = u1 := by rw [put_len, hu1]
  obtain ⟨E0, hE0⟩ : ∃ z, endN L1 = z := ⟨_, rfl⟩
  rw [hE0] at hC1 ⊢
  have hrow : M.l.length = (L1 ++ L2).length := by rw [H.bks.rows, List.length_map]
  have hroom : M.l.length ≠ M.n := by
    have := (R.room hno hid).2.2
    omega
  have HR := Lib.hid (And.intro R (And.intro hMn (And.intro hnn (And.intro hput (And.intro hroom (And.intro hno (And.intro h0x hx8)))))))
  have HH := Lib.hid H
  clear hE0 hle hlen hml R hMn hnn hput hrow hroom H hno h0x hx8 hu1
  go_enter Tryz.func74, Tryz.ntmps74
  go_wp2_with fail
  refine hC1.mono ?_
  rintro e' w1 ⟨A, B, rfl, hAB, hA, hB, b1⟩
  clear hC1
  obtain ⟨R, hMn, hnn, hput, hroom, hno, h0x, hx8⟩ := HR.out
  have H := HH.out
  rw [hAB] at R H
  have H1 := H.below ht b1
  have t1 := ht.size b1.size
  have s1 : StepC (fun c => 16 ≤ c) c2 w c2 w1 := StepC.below ht b1
  have hHA := Lib.hid hA
  have hHB := Lib.hid hB
  clear H HH HR hAB hA hB b1
  rcases List.eq_nil_or_concat A with rfl | ⟨A', e, rfl⟩
  · rw [end_nil]
    have hC2 := open_any (x := x) (L1 := []) H1 t1 hroom hN1.out
    rw [end_nil] at hC2
    go_wp2_with fail
    refine hC2.mono ?_
    rintro e' w3 ⟨nd, q, M3, c3, rfl, hnd, hM3, H3, s3⟩
    clear hC2 H1 t1
    rw [hnn] at H3
    obtain ⟨hpush, hRk⟩ := R.fresh hno hid (fun e he => by cases he) hHB.out h0x hx8 (x := nd) (blk := q) (cc := f) hnd
    obtain ⟨e0, he0⟩ : ∃ e0 : Bk, e0 = { nd := nd, ct := x, blk := q, cc := f, q := newC Int m.n } := ⟨_, rfl⟩
    have hpush' : e0.q.pushB (id : Int) = ((((0 : Nat) : Int), 0), { n := m.n, l := [(0, (id : Int))] }) := by rw [he0]; exact hpush
    have hRk' : RkI { m with l := putR m.l id x } ([] ++ { e0 with q := { n := m.n, l := [(0, (id : Int))] } } :: B) (locSet loc id (some (e0.nd, 0))) := by rw [he0]; exact hRk
    rw [← he0] at H3
    have hnd0 : nd = e0.nd := by rw [he0]
    rw [hnd0]
    obtain ⟨q1, hq1⟩ : ∃ q1 : CSt Int, q1 = { n := m.n, l := [(0, (id : Int))] } := ⟨_, rfl⟩
    rw [← hq1] at hpush' hRk'
    have hMn3 : M3.n = m.n := by rw [hM3, hMn]
    obtain ⟨x0, hx0⟩ : ∃ x0 : Nat, 0 = x0 := ⟨_, rfl⟩
    rw [hx0] at hpush' hRk'
    clear hpush hRk he0 hnd0 hq1 hx0 hnd hM3 hnn R hMn hroom hHA hHB h0x hx8 hno
    have S3 := s1.trans s3
    have t3 := s3.tidy
    clear s3
    have hC4 := bucket_any H3 t3 (e := e0) (by simp)
    have hfl : ∀ W : World, (Instr.field 109 (.agg (VBb e0.val)) 1).run Tryz.prog W = .ok (.pointer (some ⟨e0.blk, 0, none⟩)) W := fun W => bk_list e0.val W
    obtain ⟨F, hF⟩ : ∃ F, e0.val = F := ⟨_, rfl⟩
    rw [hF] at hC4 hfl
    clear hF
    go_wp2_with fail
    refine hC4.mono ?_
    rintro e' w4 ⟨rfl, b4⟩
    clear hC4
    have H4 := H3.below t3 b4
    have t4 := t3.size b4.size
    have S4 := S3.trans (StepC.below t3 b4)
    have hC5 := lpushBi_any (H4.bks.inner e0 (by simp)) t4 (id : Int)
    rw [hpush'] at hC5
    have HH4 := Lib.hid H4
    clear H3 t3 S3 b4 hpush' H4
    go_wp2_with fail
    refine hC5.mono ?_
    rintro e' w5 ⟨rfl, c5, hq5, s5⟩
    clear hC5 hfl
    have H5 : RkB c5 w5 g m.l.length b N c gB _ ((List.range m.n).map (plc loc)) _ (_ ++ { e0 with q := q1 } :: B) := ⟨HH4.out.box.keep s5 (by unfold Rng Bk.kk; omega), HH4.out.row.keep s5 (by unfold Rng Bk.kk; omega), HH4.out.bks.inn hq5 s5⟩
    have S5 := S4.trans (s5.mono (fun c hc => by have := hc.1; unfold Bk.kk at this; omega))
    have t5 := s5.tidy
    clear HH4 t4 S4 hq5 s5
    have x1 := H5.c1
    obtain ⟨y0, y1, y2, fz⟩ := H5.at_ (plc_at (loc := loc) m.n hid)
    have fz0 := fz (id * 3)
    have fz1 := fz (id * 3 + 1)
    have fz2 := fz (id * 3 + 2)
    obtain ⟨H6, s6, z0, f0⟩ := H5.placed t5 hid e0.nd x0 u1
    have HD := Lib.hid (H6.toPut hput hRk' hMn3 (S5.trans s6))
    clear H5 H6 S5 s6 t5 fz hRk' hMn3 hput
    go_wp2
    go_end0
    exact ⟨rfl, HD.out⟩
  · rw [List.concat_eq_append] at R H1 hHA ⊢
    rw [end_snoc]
    have hne : ((e.nd : Int) == -1) = false := by simp
    have hC2 := bucket_any H1 t1 (e := e) (by simp)
    have hfc : ∀ W : World, (Instr.field 109 (.agg (VBb e.val)) 0).run Tryz.prog W = .ok (.int .u64 e.ct) W := fun W => bk_count e.val W
    obtain ⟨F, hF⟩ : ∃ F, e.val = F := ⟨_, rfl⟩
    rw [hF] at hC2 hfc
    clear hF
    go_wp2_with fail
    refine hC2.mono ?_
    rintro e' w2 ⟨rfl, b2⟩
    clear hC2
    have H2 := H1.below t1 b2
    have t2 := t1.size b2.size
    have s2 := s1.trans (StepC.below t1 b2)
    clear H1 t1 s1 b2
    have hHe := Lib.hid (hHA.out e (by simp))
    by_cases hlt : e.ct < x
    · have hall := Lib.hid (show ∀ e' ∈ A' ++ [e], e'.ct < x from fun e' he' => by
        have hasc := R.asc
        rw [List.pairwise_append, List.pairwise_append] at hasc
        rcases List.mem_append.1 he' with h | h
        · have := hasc.1.2.2 e' h e (by simp)
          omega
        · rw [List.mem_singleton.1 h]; exact hlt)
      have hC2 := open_any (x := x) H2 t2 hroom hN1.out
      rw [end_snoc] at hC2
      go_wp2_with fail
      refine hC2.mono ?_
      rintro e' w3 ⟨nd, q, M3, c3, rfl, hnd, hM3, H3, s3⟩
      clear hC2 H2 t2 hfc hlt
      rw [hnn] at H3
      obtain ⟨hpush, hRk⟩ := R.fresh hno hid hall.out hHB.out h0x hx8 (x := nd) (blk := q) (cc := f) hnd
      obtain ⟨e0, he0⟩ : ∃ e0 : Bk, e0 = { nd := nd, ct := x, blk := q, cc := f, q := newC Int m.n } := ⟨_, rfl⟩
      have hpush' : e0.q.pushB (id : Int) = ((((0 : Nat) : Int), 0), { n := m.n, l := [(0, (id : Int))] }) := by rw [he0]; exact hpush
      have hRk' : RkI { m with l := putR m.l id x } ((A' ++ [e]) ++ { e0 with q := { n := m.n, l := [(0, (id : Int))] } } :: B) (locSet loc id (some (e0.nd, 0))) := by rw [he0]; exact hRk
      rw [← he0] at H3
      have hnd0 : nd = e0.nd := by rw [he0]
      rw [hnd0]
      obtain ⟨q1, hq1⟩ : ∃ q1 : CSt Int, q1 = { n := m.n, l := [(0, (id : Int))] } := ⟨_, rfl⟩
      rw [← hq1] at hpush' hRk'
      have hMn3 : M3.n = m.n := by rw [hM3, hMn]
      obtain ⟨x0, hx0⟩ : ∃ x0 : Nat, 0 = x0 := ⟨_, rfl⟩
      rw [hx0] at hpush' hRk'
      clear hpush hRk he0 hnd0 hq1 hx0 hnd hM3 hnn R hMn hroom hHA hHB h0x hx8 hno
      have S3 := s2.trans s3
      have t3 := s3.tidy
      clear s3
      have hC4 := bucket_any H3 t3 (e := e0) (by simp)
      have hfl : ∀ W : World, (Instr.field 109 (.agg (VBb e0.val)) 1).run Tryz.prog W = .ok (.pointer (some ⟨e0.blk, 0, none⟩)) W := fun W => bk_list e0.val W
      obtain ⟨F, hF⟩ : ∃ F, e0.val = F := ⟨_, rfl⟩
      rw [hF] at hC4 hfl
      clear hF
      go_wp2_with fail
      refine hC4.mono ?_
      rintro e' w4 ⟨rfl, b4⟩
      clear hC4
      have H4 := H3.below t3 b4
      have t4 := t3.size b4.size
      have S4 := S3.trans (StepC.below t3 b4)
      have hC5 := lpushBi_any (H4.bks.inner e0 (by simp)) t4 (id : Int)
      rw [hpush'] at hC5
      have HH4 := Lib.hid H4
      clear H3 t3 S3 b4 hpush' H4
      go_wp2_with fail
      refine hC5.mono ?_
      rintro e' w5 ⟨rfl, c5, hq5, s5⟩
      clear hC5 hfl
      have H5 : RkB c5 w5 g m.l.length b N c gB _ ((List.range m.n).map (plc loc)) _ (_ ++ { e0 with q := q1 } :: B) := ⟨HH4.out.box.keep s5 (by unfold Rng Bk.kk; omega), HH4.out.row.keep s5 (by unfold Rng Bk.kk; omega), HH4.out.bks.inn hq5 s5⟩
      have S5 := S4.trans (s5.mono (fun c hc => by have := hc.1; unfold Bk.kk at this; omega))
      have t5 := s5.tidy
      clear HH4 t4 S4 hq5 s5
      have x1 := H5.c1
      obtain ⟨y0, y1, y2, fz⟩ := H5.at_ (plc_at (loc := loc) m.n hid)
      have fz0 := fz (id * 3)
      have fz1 := fz (id * 3 + 1)
      have fz2 := fz (id * 3 + 2)
      obtain ⟨H6, s6, z0, f0⟩ := H5.placed t5 hid e0.nd x0 u1
      have HD := Lib.hid (H6.toPut hput hRk' hMn3 (S5.trans s6))
      clear H5 H6 S5 s6 t5 fz hRk' hMn3 hput
      go_wp2
      go_end0
      exact ⟨rfl, HD.out⟩
    · have hex : e.ct = x := by have := hHe.out; omega
      rw [List.append_assoc, List.singleton_append] at R H2
      obtain ⟨x0, hx0⟩ : ∃ x0, freeN e.q.nodes = x0 := ⟨_, rfl⟩
      obtain ⟨hpush', hRk0⟩ := R.push hno hid hx0
      have hRk' : RkI { m with l := putR m.l id x } (A' ++ { e with q := { e.q with l := e.q.l ++ [(x0, (id : Int))] } } :: B) (locSet loc id (some (e.nd, x0))) := by rw [← hex]; exact hRk0
      clear hRk0
      obtain ⟨q1, hq1⟩ : ∃ q1 : CSt Int, q1 = { e.q with l := e.q.l ++ [(x0, (id : Int))] } := ⟨_, rfl⟩
      rw [← hq1] at hpush' hRk'
      have hMn3 := hMn
      have H3 := H2
      have S3 := s2
      have t3 := t2
      have hne' := hne
      clear hHe hex H2 s2 t2 hx0 hq1 hnn R hMn hroom hHA hHB h0x hx8 hno
      have hC4 := bucket_any H3 t3 (e := e) (by simp)
      have hfl : ∀ W : World, (Instr.field 109 (.agg (VBb e.val)) 1).run Tryz.prog W = .ok (.pointer (some ⟨e.blk, 0, none⟩)) W := fun W => bk_list e.val W
      obtain ⟨F, hF⟩ : ∃ F, e.val = F := ⟨_, rfl⟩
      rw [hF] at hC4 hfl
      clear hF
      go_wp2_with fail
      refine hC4.mono ?_
      rintro e' w4 ⟨rfl, b4⟩
      clear hC4
      have H4 := H3.below t3 b4
      have t4 := t3.size b4.size
      have S4 := S3.trans (StepC.below t3 b4)
      have hC5 := lpushBi_any (H4.bks.inner e (by simp)) t4 (id : Int)
      rw [hpush'] at hC5
      have HH4 := Lib.hid H4
      clear H3 t3 S3 b4 hpush' H4
      go_wp2_with fail
      refine hC5.mono ?_
      rintro e' w5 ⟨rfl, c5, hq5, s5⟩
      clear hC5 hfl
      have H5 : RkB c5 w5 g m.l.length b N c gB _ ((List.range m.n).map (plc loc)) _ (_ ++ { e with q := q1 } :: B) := ⟨HH4.out.box.keep s5 (by unfold Rng Bk.kk; omega), HH4.out.row.keep s5 (by unfold Rng Bk.kk; omega), HH4.out.bks.inn hq5 s5⟩
      have S5 := S4.trans (s5.mono (fun c hc => by have := hc.1; unfold Bk.kk at this; omega))
      have t5 := s5.tidy
      clear HH4 t4 S4 hq5 s5
      have x1 := H5.c1
      obtain ⟨y0, y1, y2, fz⟩ := H5.at_ (plc_at (loc := loc) m.n hid)
      have fz0 := fz (id * 3)
      have fz1 := fz (id * 3 + 1)
      have fz2 := fz (id * 3 + 2)
      obtain ⟨H6, s6, z0, f0⟩ := H5.placed t5 hid e.nd x0 u1
      have HD := Lib.hid (H6.toPut hput hRk' hMn3 (S5.trans s6))
      clear H5 H6 S5 s6 t5 fz hRk' hMn3 hput
      go_wp2
      go_end0
      exact ⟨rfl, HD.out⟩
end
end Go.Proofs.YtlfhkhnhcckajaaGreatDoor

/- The program's orders: Count, Len, Insert, Remove, Raise. Conditions: none beyond those typed. -/
namespace Go.Proofs.YtlfhkhnhcckajaaGreatDoor
open Go.ChangeShapes Go.WideShapes Go.ChangeAt Go.RowKit
set_option linter.unusedVariables false
set_option linter.unusedSimpArgs false
set_option maxRecDepth 100000

section
variable {c2 : Col} {w w' : World} {g : Nat} {m : CSt Int} {L : List Bk} {loc : Loc} {z x : Int} {id : Nat}
theorem RkI.off (R : RkI m L loc) (h : z < 0 ∨ (m.n : Int) ≤ z) : placeC m.l z = none := by
  cases hp : placeC m.l z with
  | none => rfl
  | some i =>
    obtain ⟨p, hp1, hp2, _⟩ := place_some hp
    have := R.good.c.lt p.1 (List.mem_map.2 ⟨p, List.mem_of_getElem? hp1, rfl⟩)
    omega
theorem RkI.gone (R : RkI m L loc) (h : loc id = none) : placeC m.l (id : Int) = none := by
  have := R.has id
  rw [h] at this
  cases hp : placeC m.l (id : Int) with
  | none => rfl
  | some i => rw [hp] at this; cases this
theorem count_none (h : placeC m.l z = none) : m.countR z = (0, false) := by unfold CSt.countR CSt.value; rw [h]; rfl
theorem RkS.below (S : RkS c2 w g m L loc) (ht : Tidy c2 w) (hb : Below w.heap.size w w') : RkS c2 w' g m L loc := by
  obtain ⟨b, N, c, gB, f, M, H, R⟩ := S
  exact ⟨b, N, c, gB, f, M, H.below ht hb, R⟩
theorem rlen_any (S : RkS c2 w g m L loc) : Calls Tryz.prog 63 #[.pointer (some ⟨g, 0, none⟩)] w fun e w' => e = .returned (.int .i64 m.l.length) ∧ w = w' := by
  obtain ⟨b, N, c, gB, f, M, H, R⟩ := S
  have x0 := H.c0
  clear H R
  go_enter Tryz.func63, Tryz.ntmps63
  go_wp2
  go_ret
  exact ⟨rfl, rfl⟩
set_option maxHeartbeats 1000000 in
theorem rcount_any (S : RkS c2 w g m L loc) (ht : Tidy c2 w) (hz : J64 z) : Calls Tryz.prog 71 #[.pointer (some ⟨g, 0, none⟩), .int .i64 z] w fun e w' => e = .returned (.tuple #[.int .u64 (m.countR z).1, .bool (m.countR z).2]) ∧ Below w.heap.size w w' := by
  obtain ⟨b, N, c, gB, f, M, H, R, hMn⟩ := S
  have hlen := H.len
  rw [List.length_map, List.length_range] at hlen
  obtain ⟨hcp, hcm⟩ := H.cap
  have x1 := H.c1
  have hn8 := R.good.c.n8
  unfold J64 at hz
  by_cases h0 : z < 0
  · rw [count_none (R.off (.inl h0))]
    clear H R
    go_enter Tryz.func71, Tryz.ntmps71
    go_wp2
    go_ret2
    exact ⟨rfl, Below.refl _ _⟩
  by_cases h1 : (N : Int) ≤ z
  · rw [count_none (R.off (.inr (by omega)))]
    have hge : z ≥ (N : Int) := h1
    clear H R
    go_enter Tryz.func71, Tryz.ntmps71
    go_wp2
    go_ret2
    exact ⟨rfl, Below.refl _ _⟩
  obtain ⟨id, rfl⟩ : ∃ q : Nat, z = (q : Int) := ⟨z.toNat, by omega⟩
  have hid : id < m.n := by omega
  have hge : ¬ (id : Int) ≥ (N : Int) := h1
  have hIdI : (id : Int) < (N : Int) := by omega
  have hat := plc_at (loc := loc) m.n hid
  obtain ⟨y0, y1, y2, _⟩ := H.at_ hat
  cases hl : loc id with
  | none =>
    have hpl : plc loc id = (false, 0, 0) := by unfold plc; rw [hl]
    rw [hpl] at y0
    rw [count_none (R.gone hl)]
    clear H R hat y1 y2 hl hpl
    go_enter Tryz.func71, Tryz.ntmps71
    go_wp2
    go_ret2
    exact ⟨rfl, Below.refl _ _⟩
  | some bk =>
    obtain ⟨bn, k⟩ := bk
    obtain ⟨L1, e, L2, K1, K2, rfl, rfl, hK⟩ := R.split hl
    have hpl : plc loc id = (true, (e.nd : Int), (k : Int)) := by unfold plc; rw [hl]
    rw [hpl] at y0 y1
    rw [(R.count hK).2]
    have hC := bucket_any H ht (e := e) (by simp)
    have hfc : ∀ W : World, (Instr.field 109 (.agg (VBb e.val)) 0).run Tryz.prog W = .ok (.int .u64 e.ct) W := fun W => bk_count e.val W
    obtain ⟨F, hF⟩ : ∃ F, e.val = F := ⟨_, rfl⟩
    rw [hF] at hC hfc
    clear H R hat y2 hl hpl hK hF
    go_enter Tryz.func71, Tryz.ntmps71
    go_wp2_with fail
    refine hC.mono ?_
    rintro e' w2 ⟨rfl, b2⟩
    clear hC
    go_wp2
    go_ret2
    exact ⟨rfl, b2⟩
end
end Go.Proofs.YtlfhkhnhcckajaaGreatDoor

/- The program's orders: Insert, Remove, Raise. Conditions: none beyond those typed. -/
namespace Go.Proofs.YtlfhkhnhcckajaaGreatDoor
open Go.ChangeShapes Go.WideShapes Go.ChangeAt Go.RowKit
set_option linter.unusedVariables false
set_option linter.unusedSimpArgs false
set_option maxRecDepth 100000

/-- The order is m' now. -/
def DidR (c2 : Col) (w : World) (g : Nat) (m : CSt Int) (w' : World) : Prop := ∃ (c2' : Col) (L : List Bk) (loc : Loc), RkS c2' w' g m L loc ∧ StepC (fun c => 16 ≤ c) c2 w c2' w'
section
variable {c2 : Col} {w w' W : World} {g : Nat} {m m' : CSt Int} {L : List Bk} {loc : Loc} {z x : Int} {id : Nat}
theorem RkS.same (S : RkS c2 w g m L loc) (ht : Tidy c2 w) (hb : Below w.heap.size w w') : DidR c2 w g m w' := ⟨c2, L, loc, S.below ht hb, StepC.below ht hb⟩
theorem PutR.did (h : PutR c2 w g m id x w') : DidR c2 w g { m with l := putR m.l id x } w' := h
set_option maxHeartbeats 1000000 in
theorem rins_any (S : RkS c2 w g m L loc) (ht : Tidy c2 w) (hz : J64 z) (hx : U64 x) : Calls Tryz.prog 59 #[.pointer (some ⟨g, 0, none⟩), .int .i64 z, .int .u64 x] w fun e w' => e = .returned (.int .i64 (m.insR z x).1) ∧ DidR c2 w g (m.insR z x).2 w' := by
  have SS := Lib.hid S
  obtain ⟨b, N, c, gB, f, M, H, R, hMn⟩ := S
  have hlen := H.len
  rw [List.length_map, List.length_range] at hlen
  obtain ⟨hcp, hcm⟩ := H.cap
  have x1 := H.c1
  have hn8 := R.good.c.n8
  unfold J64 at hz
  unfold U64 at hx
  by_cases h0 : z < 0
  · have hE : m.insR z x = (1, m) := by unfold CSt.insR; rw [if_pos (.inl h0)]
    rw [hE]
    have HD := Lib.hid (SS.out.same ht (Below.refl _ _))
    clear H R hE
    go_enter Tryz.func59, Tryz.ntmps59
    go_wp2
    go_ret
    exact ⟨rfl, HD.out⟩
  by_cases h1 : (N : Int) ≤ z
  · have hE : m.insR z x = (1, m) := by unfold CSt.insR; rw [if_pos (.inr (by omega))]
    rw [hE]
    have hge : z ≥ (N : Int) := h1
    have HD := Lib.hid (SS.out.same ht (Below.refl _ _))
    clear H R hE
    go_enter Tryz.func59, Tryz.ntmps59
    go_wp2
    go_ret
    exact ⟨rfl, HD.out⟩
  obtain ⟨id, rfl⟩ : ∃ q : Nat, z = (q : Int) := ⟨z.toNat, by omega⟩
  have hid : id < m.n := by omega
  have hge : ¬ (id : Int) ≥ (N : Int) := h1
  have hIdI : (id : Int) < (N : Int) := by omega
  have hat := plc_at (loc := loc) m.n hid
  obtain ⟨y0, _, _, _⟩ := H.at_ hat
  cases hl : loc id with
  | some bk =>
    have hpl : (plc loc id).1 = true := by unfold plc; rw [hl]
    rw [hpl] at y0
    have hE : m.insR (id : Int) x = (10, m) := by
      unfold CSt.insR
      rw [if_neg (by omega), if_pos (by rw [R.has, hl]; rfl)]
    rw [hE]
    have HD := Lib.hid (SS.out.same ht (Below.refl _ _))
    clear H R hE hat hl hpl
    go_enter Tryz.func59, Tryz.ntmps59
    go_wp2
    go_ret
    exact ⟨rfl, HD.out⟩
  | none =>
    have hpl : (plc loc id).1 = false := by unfold plc; rw [hl]
    rw [hpl] at y0
    have hF := fits_any 0 x w (by omega) hx
    have hno : ¬ (placeC m.l (id : Int)).isSome = true := by rw [R.gone hl]; decide
    by_cases hf : x ≤ 9223372036854775808
    · rw [fits_yes (by omega)] at hF
      have hE : m.insR (id : Int) x = (0, { m with l := putR m.l id x }) := by
        unfold CSt.insR
        rw [if_neg (by omega), if_neg hno, if_neg (by omega), Int.toNat_natCast]
      rw [hE]
      have hP := rput_any (L1 := []) (L2 := L) SS.out ht hl hid hx.1 hf (fun e he => by cases he)
      rw [end_nil] at hP
      clear H R hE hat hl hpl hno SS
      go_enter Tryz.func59, Tryz.ntmps59
      go_wp2_with fail
      refine hF.mono ?_
      rintro e' w2 ⟨rfl, hw2⟩
      subst hw2
      clear hF
      go_wp2_with fail
      refine hP.mono ?_
      rintro e' w2 ⟨rfl, hd⟩
      have HD := Lib.hid hd.did
      clear hP hd
      go_wp2
      go_ret
      exact ⟨rfl, HD.out⟩
    · rw [fits_no (by omega)] at hF
      have hE : m.insR (id : Int) x = (12, m) := by
        unfold CSt.insR
        rw [if_neg (by omega), if_neg hno, if_pos (by omega)]
      rw [hE]
      have HD := Lib.hid (SS.out.same ht (Below.refl _ _))
      clear H R hE hat hl hpl hno SS
      go_enter Tryz.func59, Tryz.ntmps59
      go_wp2_with fail
      refine hF.mono ?_
      rintro e' w2 ⟨rfl, hw2⟩
      subst hw2
      clear hF
      go_wp2
      go_ret
      exact ⟨rfl, HD.out⟩
theorem RkI.nat (R : RkI m L loc) (h : (placeC m.l z).isSome = true) : ∃ id : Nat, z = (id : Int) ∧ ∃ bn k, loc id = some (bn, k) := by
  obtain ⟨i, hi⟩ := Option.isSome_iff_exists.1 h
  obtain ⟨p, hp1, hp2, _⟩ := place_some hi
  have h2 := R.has p.1
  rw [hp2, h] at h2
  obtain ⟨bk, hb⟩ := Option.isSome_iff_exists.1 h2.symm
  exact ⟨p.1, hp2.symm, bk.1, bk.2, hb⟩
theorem rrem_any (S : RkS c2 w g m L loc) (ht : Tidy c2 w) (hz : J64 z) : Calls Tryz.prog 55 #[.pointer (some ⟨g, 0, none⟩), .int .i64 z] w fun e w' => e = .returned (.tuple #[.int .u64 (m.value 0 z).1, .int .i64 (m.value 0 z).2]) ∧ DidR c2 w g (m.rem z) w' := by
  have hC := rcount_any S ht hz
  cases hp : placeC m.l z with
  | none =>
    rw [count_none hp] at hC
    have hV : m.value 0 z = (0, 8) := by unfold CSt.value; rw [hp]
    have hR : m.rem z = m := by unfold CSt.rem; rw [hp]
    rw [hV, hR]
    have HD := Lib.hid (fun (W : World) (hb : Below w.heap.size w W) => S.same ht hb)
    clear S hV hR hp
    go_enter Tryz.func55, Tryz.ntmps55
    go_wp2_with fail
    refine hC.mono ?_
    rintro e' w2 ⟨rfl, b2⟩
    clear hC
    go_wp2
    go_ret2
    exact ⟨rfl, HD.out _ b2⟩
  | some i =>
    obtain ⟨b, N, c, gB, f, M, H, R, hMn⟩ := S
    obtain ⟨id, rfl, bn, k, hl⟩ := R.nat (z := z) (by rw [hp]; rfl)
    have S : RkS c2 w g m L loc := ⟨b, N, c, gB, f, M, H, R, hMn⟩
    obtain ⟨L1, e, L2, K1, K2, hLL, hnd, hK⟩ := R.split hl
    have hct : m.countR (id : Int) = (e.ct, true) ∧ m.value 0 (id : Int) = (e.ct, 0) := by
      rw [hLL] at R
      exact ⟨(R.count hK).2, (R.count hK).1⟩
    rw [hct.1] at hC
    rw [hct.2]
    have HT := fun (W : World) (hb : Below w.heap.size w W) => rtake_any (S.below ht hb) (ht.size hb.size) hl
    generalize e.ct = y at *
    clear S H R hp hLL hK hct
    go_enter Tryz.func55, Tryz.ntmps55
    go_wp2_with fail
    refine hC.mono ?_
    rintro e' w2 ⟨rfl, b2⟩
    clear hC
    have hT := HT _ b2
    clear HT
    go_wp2_with fail
    refine hT.mono ?_
    rintro e' w3 ⟨z3, rfl, A, B, c3, _, S3, _, s3⟩
    have HD := Lib.hid (show DidR c2 w g (m.rem (id : Int)) w3 from ⟨c3, _, _, S3, (StepC.below ht b2).trans s3⟩)
    clear hT S3 s3 b2
    go_wp2
    go_ret2
    exact ⟨rfl, HD.out⟩
set_option maxHeartbeats 1000000 in
theorem rraise_any (S : RkS c2 w g m L loc) (ht : Tidy c2 w) (hz : J64 z) (hx : U64 x) : Calls Tryz.prog 61 #[.pointer (some ⟨g, 0, none⟩), .int .i64 z, .int .u64 x] w fun e w' => e = .returned (.int .i64 (m.raiseR z x).1) ∧ DidR c2 w g (m.raiseR z x).2 w' := by
  have hC := rcount_any S ht hz
  unfold U64 at hx
  cases hp : placeC m.l z with
  | none =>
    rw [count_none hp] at hC
    have hE : m.raiseR z x = (8, m) := by unfold CSt.raiseR; rw [hp]
    rw [hE]
    have HD := Lib.hid (fun (W : World) (hb : Below w.heap.size w W) => S.same ht hb)
    clear S hE hp
    go_enter Tryz.func61, Tryz.ntmps61
    go_wp2_with fail
    refine hC.mono ?_
    rintro e' w2 ⟨rfl, b2⟩
    clear hC
    go_wp2
    go_ret
    exact ⟨rfl, HD.out _ b2⟩
  | some i =>
    have HS := Lib.hid (fun (W : World) (hb : Below w.heap.size w W) => S.same ht hb)
    obtain ⟨b, N, c, gB, f, M, H, R, hMn⟩ := S
    obtain ⟨id, rfl, bn, k, hl⟩ := R.nat (z := z) (by rw [hp]; rfl)
    have S : RkS c2 w g m L loc := ⟨b, N, c, gB, f, M, H, R, hMn⟩
    have hid := R.idlt hl
    obtain ⟨L1, e, L2, K1, K2, hLL, hnd, hK⟩ := R.split hl
    rw [hLL] at R
    obtain ⟨hv, hct⟩ := R.count hK
    obtain ⟨q, hq1, hq2, _⟩ := place_some hp
    have hq3 : q.2 = e.ct := by
      have h1 : m.value 0 (id : Int) = (q.2, 0) := by unfold CSt.value; rw [hp]; show (((m.l[i]?).map Prod.snd).getD 0, (0 : Int)) = _; rw [hq1]; rfl
      rw [hv] at h1
      injection h1 with h1 _
      exact h1.symm
    have hbd := R.good.bd q (List.mem_of_getElem? hq1)
    rw [hq3] at hbd
    have hRS := fun hf hb => raise_split (b := x) R.good.c (R.form hK) hf hb
    have hRM := (rem_in R.good.c (R.form hK)).1
    rw [hct] at hC
    have hF := fun W : World => fits_any e.ct x W (by omega) hx
    have HT := fun (W : World) (hb : Below w.heap.size w W) => rtake_any (S.below ht hb) (ht.size hb.size) hl
    have hV : (m.value 0 (id : Int)).1 = e.ct := by rw [hv]
    obtain ⟨y, hy⟩ : ∃ y, e.ct = y := ⟨_, rfl⟩
    rw [hy] at hC hF hRS hRM hbd hV hq3
    by_cases hf : y + x ≤ 9223372036854775808
    · rw [fits_yes hf] at hF
      by_cases hx0 : x = 0
      · have hE : m.raiseR (id : Int) x = (0, m) := by
          unfold CSt.raiseR
          rw [hp]
          show (match m.l[i]? with | none => _ | some p => _) = _
          rw [hq1]
          show (if fitsB q.2 x = true then ((0 : Int), if 0 < x then _ else m) else _) = _
          rw [hq3, if_pos (fits_yes hf), if_neg (by omega)]
        rw [hE]
        clear S H R hp hLL hK hct hE hRS hRM HT hv hV hq1 hq2 hq3
        subst hx0
        go_enter Tryz.func61, Tryz.ntmps61
        go_wp2_with fail
        refine hC.mono ?_
        rintro e' w2 ⟨rfl, b2⟩
        clear hC
        go_wp2_with fail
        refine (hF _).mono ?_
        rintro e' w3 ⟨rfl, hw3⟩
        subst hw3
        clear hF
        go_wp2
        go_ret
        exact ⟨rfl, HS.out _ b2⟩
      · have hE : m.raiseR (id : Int) x = (0, { m.rem (id : Int) with l := putR (m.rem (id : Int)).l id (y + x) }) := by
          rw [hRS (fits_yes hf) (by omega), hRM]
        rw [hE]
        have hidr : id < (m.rem (id : Int)).n := by rw [hRM]; exact hid
        have hwx : IntKind.u64.wrap (y + x) = y + x := by rw [IntKind.wrap_u64]; omega
        have hHV := Lib.hid hV
        obtain ⟨m1, hm1⟩ : ∃ m1, m.rem (id : Int) = m1 := ⟨_, rfl⟩
        rw [hm1] at hidr ⊢
        clear S H R hp hLL hK hct hE hRS hRM HS hv hV hq1 hq2 hq3 hy
        go_enter Tryz.func61, Tryz.ntmps61
        go_wp2_with fail
        refine hC.mono ?_
        rintro e' w2 ⟨rfl, b2⟩
        clear hC
        go_wp2_with fail
        refine (hF _).mono ?_
        rintro e' w3 ⟨rfl, hw3⟩
        subst hw3
        clear hF
        have hT := HT _ b2
        clear HT
        go_wp2_with fail
        refine hT.mono ?_
        rintro e' w3 ⟨z3, rfl, A, B, c3, hz3, S3, hA, s3⟩
        clear hT
        rw [hm1] at S3
        rw [hHV.out] at hA
        have hP := rput_any S3 s3.tidy (id := id) (x := y + x) (by unfold locSet; rw [if_pos rfl]) hidr (by omega) hf (fun e he => by have := hA e he; omega)
        rw [← hz3] at hP
        have s4 := (StepC.below (P := fun c => 16 ≤ c) ht b2).trans s3
        clear S3 hA s3 b2 hz3 hm1
        go_wp2_with fail
        refine hP.mono ?_
        rintro e' w4 ⟨rfl, c4, L4, loc4, S4, s5⟩
        have HD := Lib.hid (show DidR c2 w g _ w4 from ⟨c4, L4, loc4, S4, s4.trans s5⟩)
        clear hP S4 s5 s4
        go_wp2
        go_ret
        exact ⟨rfl, HD.out⟩
    · rw [fits_no hf] at hF
      have hE : m.raiseR (id : Int) x = (12, m) := by
        unfold CSt.raiseR
        rw [hp]
        show (match m.l[i]? with | none => _ | some p => _) = _
        rw [hq1]
        show (if fitsB q.2 x = true then _ else ((12 : Int), m)) = _
        rw [hq3, if_neg (by rw [fits_no hf]; decide)]
      rw [hE]
      clear S H R hp hLL hK hct hE hRS hRM HT hv hV hq1 hq2 hq3
      go_enter Tryz.func61, Tryz.ntmps61
      go_wp2_with fail
      refine hC.mono ?_
      rintro e' w2 ⟨rfl, b2⟩
      clear hC
      go_wp2_with fail
      refine (hF _).mono ?_
      rintro e' w3 ⟨rfl, hw3⟩
      subst hw3
      clear hF
      go_wp2
      go_ret
      exact ⟨rfl, HS.out _ b2⟩
end
end Go.Proofs.YtlfhkhnhcckajaaGreatDoor

/- The program's orders: Least. Conditions: none beyond those typed. -/
namespace Go.Proofs.YtlfhkhnhcckajaaGreatDoor
open Go.ChangeShapes Go.WideShapes Go.ChangeAt Go.RowKit
set_option linter.unusedVariables false
set_option linter.unusedSimpArgs false
set_option maxRecDepth 100000

section
variable {c2 : Col} {w w' W : World} {g : Nat} {m m' : CSt Int} {L : List Bk} {loc : Loc} {z x : Int} {id : Nat}
set_option maxHeartbeats 1000000 in
theorem rleast_any (S : RkS c2 w g m L loc) (ht : Tidy c2 w) : Calls Tryz.prog 62 #[.pointer (some ⟨g, 0, none⟩)] w fun e w' => e = .returned (.tuple #[.int .i64 m.leastR.1.1, .int .u64 m.leastR.1.2, .bool m.leastR.2]) ∧ Below w.heap.size w w' := by
  have hLn := rlen_any S
  obtain ⟨b, N, c, gB, f, M, H, R, hMn⟩ := S
  cases L with
  | nil =>
    have hml : m.l = [] := R.flat
    have hE : m.leastR = ((0, 0), false) := by unfold CSt.leastR; rw [hml]
    rw [hE]
    rw [hml] at hLn
    clear H R hE hml
    go_enter Tryz.func62, Tryz.ntmps62
    go_wp2_with fail
    refine hLn.mono ?_
    rintro e' w2 ⟨rfl, hw⟩
    subst hw
    go_wp2
    go_ret3
    exact ⟨rfl, Below.refl _ _⟩
  | cons e L2 =>
    have x2 := H.cB
    cases hq : e.q.l with
    | nil => exact absurd hq (R.full e (by simp))
    | cons p K =>
      obtain ⟨k, v⟩ := p
      have hv0 : 0 ≤ v := R.vals e (by simp) (k, v) (by rw [hq]; simp)
      have hl := R.flat
      rw [List.map_cons] at hl
      have hid2 : e.ids.2 = v.toNat :: (K.map Prod.snd).map Int.toNat := by unfold Bk.ids CSt.vals; rw [hq]; rfl
      have hE := least_flat hl hid2
      rw [Int.toNat_of_nonneg hv0] at hE
      have hE' : m.leastR = ((v, e.ct), true) := hE
      rw [hE']
      have hlen : (m.l.length : Int) ≠ 0 := by
        rw [hl, flat_cons, hid2]; simp
        omega
      obtain ⟨n0, hn0⟩ : ∃ n0, m.l.length = n0 := ⟨_, rfl⟩
      rw [hn0] at hLn hlen
      have hne : ((n0 : Int) == 0) = false := by simpa using hlen
      have hFi := lfirstb_any H.bks.outer
      rw [show M.first = (e.nd : Int) from H.bks.first] at hFi
      have hBk := fun j => bucket_any (H.below ht (below_drewN (Below.refl _ _) j)) (show Tidy c2 (w.drewN j) from ht) (e := e) (by simp)
      have hQi := fun (W : World) (hb : Below w.heap.size w W) => lfirsti_any ((H.below ht hb).bks.inner e (by simp))
      have hqf : e.q.first = (k : Int) := by unfold CSt.first CSt.nodes; rw [hq]; rfl
      have hkn := (R.qs e (by simp)).lt k (List.mem_map.2 ⟨(k, v), by rw [hq]; simp, rfl⟩)
      have hkn8 := (R.qs e (by simp)).n8
      have hQv := fun (W : World) (hb : Below w.heap.size w W) => lvaluei_any ((H.below ht hb).bks.inner e (by simp)) (ht.size hb.size) (z := (k : Int)) (by unfold J64; omega)
      have hval : e.q.value 0 (k : Int) = (v, 0) := by
        have hat : e.q.l[0]? = some (k, v) := by rw [hq]; rfl
        have hp := place_is (R.qs e (by simp)) hat
        unfold CSt.value
        rw [hp]
        show (((e.q.l[0]?).map Prod.snd).getD 0, (0 : Int)) = _
        rw [hat]; rfl
      rw [hqf] at hQi
      rw [hval] at hQv
      have hF2 := Lib.hid (show e.val.2 = some ⟨e.blk, 0, none⟩ from rfl)
      have hF1 : e.val.1 = e.ct := rfl
      obtain ⟨F, hF⟩ : ∃ F, e.val = F := ⟨_, rfl⟩
      rw [hF] at hBk hF1 hF2
      rw [← hF1]
      clear H R hE hE' hl hid2 hq hlen hn0 hqf hkn hkn8 hval hF1 hF
      go_enter Tryz.func62, Tryz.ntmps62
      go_wp2_with fail
      refine hLn.mono ?_
      rintro e' w2 ⟨rfl, hw⟩
      subst hw
      clear hLn
      go_wp2_with fail
      refine hFi.mono ?_
      rintro e' w3 ⟨rfl, j, rfl⟩
      clear hFi
      go_wp2_with fail
      refine (hBk j).mono ?_
      rintro e' w4 ⟨rfl, b4⟩
      clear hBk
      have bd : Below w.heap.size w (w.drewN j) := below_drewN (Below.refl _ _) j
      have b5 : Below w.heap.size w (w4.alloc (.cells (VBb F) 109)) := (below_then bd b4).alloc (below_then bd b4).size _
      have v0 : (w4.alloc (.cells (VBb F) 109)).cell? ⟨w4.heap.size, 0, none⟩ = some (.int .u64 F.1) := (World.cell?_alloc_at (w := w4) _ _ _ _ rfl).trans rfl
      have v1 : (w4.alloc (.cells (VBb F) 109)).cell? ⟨w4.heap.size, 1, none⟩ = some (.pointer F.2) := (World.cell?_alloc_at (w := w4) _ _ _ _ rfl).trans rfl
      rw [hF2.out] at v1
      clear hF2 bd b4
      go_wp2_with fail
      generalize hW5 : w4.alloc (.cells #[.int .u64 F.1, .pointer F.2] 109) = W5 at *
      generalize w4.heap.size = G at *
      have hQi1 := hQi W5.drew b5.drew
      have hQi2 := fun n => hQi (W5.drewN n) (below_drewN b5 n)
      have hQv1 := hQv W5.drew b5.drew
      have hQv2 := fun n => hQv (W5.drewN n) (below_drewN b5 n)
      have b6 : ∀ n, Below w.heap.size w (W5.drewN n) := fun n => below_drewN b5 n
      clear hQi hQv hW5
      go_region_held3 (fun W => W.cell? ⟨G, 1, none⟩ = some (.pointer (some ⟨e.blk, 0, none⟩))) (first | exact v1 | assumption) (first | (go_at_call 79; refine hQi1.mono ?_; rintro e' w6 ⟨rfl, j6, rfl⟩) | (go_at_call 79; refine (hQi2 _).mono ?_; rintro e' w6 ⟨rfl, j6, rfl⟩) | (go_at_call 78; refine (hQv2 _).mono ?_; rintro e' w7 ⟨rfl, j7, rfl⟩))
      all_goals
        have B7 := Lib.hid b6
        clear hQi1 hQi2 hQv1 hQv2 b6 b5
        go_wp2
        go_quiet (fail)
        go_wp2
        go_ret3
        exact ⟨rfl, below_drewN (B7.out _) _⟩
end
end Go.Proofs.YtlfhkhnhcckajaaGreatDoor

/- The program's orders: Order. Conditions: none beyond those typed. -/
namespace Go.Proofs.YtlfhkhnhcckajaaGreatDoor
open Go.ChangeShapes Go.WideShapes Go.ChangeAt Go.RowKit
set_option linter.unusedVariables false
set_option linter.unusedSimpArgs false
set_option maxRecDepth 100000

def valsL (L : List Bk) : List Int := L.flatMap fun e => e.q.vals
theorem valsL_flat : ∀ (L : List Bk), (∀ e ∈ L, ∀ p ∈ e.q.l, 0 ≤ p.2) → (flatB (L.map Bk.ids)).map (fun p => (p.1 : Int)) = valsL L
  | [], _ => rfl
  | e :: L, h => by
    have ih := valsL_flat L fun e' he' => h e' (by simp [he'])
    rw [List.map_cons, flat_cons, List.map_append, ih]
    show _ = e.q.vals ++ valsL L
    congr 1
    rw [List.map_map]
    show (e.q.vals.map Int.toNat).map (fun k => ((k : Nat) : Int)) = e.q.vals
    rw [List.map_map]
    conv => rhs; rw [← List.map_id e.q.vals]
    refine List.map_congr_left fun z hz => ?_
    obtain ⟨p, hp, rfl⟩ := List.mem_map.1 hz
    show ((p.2.toNat : Nat) : Int) = p.2
    exact Int.toNat_of_nonneg (h e (by simp) p hp)
theorem RkI.order {m : CSt Int} {L : List Bk} {loc : Loc} (R : RkI m L loc) : m.ns = valsL L := by
  unfold CSt.ns
  rw [R.flat]
  exact valsL_flat L R.vals
theorem valsL_take (L : List Bk) {i : Nat} {e : Bk} (h : L[i]? = some e) : valsL (L.take (i + 1)) = valsL (L.take i) ++ e.q.vals := by
  rw [List.take_add_one, h]
  show List.flatMap _ (_ ++ [e]) = _
  rw [List.flatMap_append]
  simp [valsL]
theorem valsL_le (L : List Bk) (i : Nat) : (valsL (L.take i)).length ≤ (valsL L).length := by
  have h : valsL L = valsL (L.take i) ++ valsL (L.drop i) := by
    conv => lhs; rw [← List.take_append_drop i L]
    exact List.flatMap_append ..
  rw [h, List.length_append]; omega
section
variable {c2 : Col} {w w' W : World} {g : Nat} {m m' : CSt Int} {L : List Bk} {loc : Loc} {z x : Int} {id : Nat}
end
end Go.Proofs.YtlfhkhnhcckajaaGreatDoor

/- The program's orders keep their contracts: New, and all that the statements use. Conditions: none beyond those typed. -/
namespace Go.Proofs.YtlfhkhnhcckajaaGreatDoor
open Go.ChangeShapes Go.WideShapes Go.ChangeAt Go.RowKit
set_option linter.unusedVariables false
set_option linter.unusedSimpArgs false
set_option maxRecDepth 100000

/-- The order m lies in block g, with the base colour k. -/
def PRr : RepR := fun col k w g m => 1 ≤ k ∧ ∃ (c2 : Col) (L : List Bk) (loc : Loc), Fine k col c2 ∧ Tidy c2 w ∧ RkS c2 w g m L loc
section
variable {P : Nat → Prop} {col col' c2 c2' : Col} {w w' : World} {k g : Nat} {m m' : CSt Int} {L : List Bk} {loc : Loc} {z x : Int}
theorem RkS.keep (S : RkS c2 w g m L loc) (hs : StepC P c2 w c2' w') (hP : ∀ c, 16 ≤ c → ¬ P c) (h0 : ¬ P 0) : RkS c2' w' g m L loc := by
  obtain ⟨b, N, c, gB, f, M, H, R⟩ := S
  exact ⟨b, N, c, gB, f, M, H.keep hs hP h0, R⟩
theorem PRr.keep (h : PRr col k w g m) (hs : StepC P col w col' w') (hp : ∀ c, Rng k c → ¬ P c) (h0 : ¬ P 0) : PRr col' k w' g m := by
  obtain ⟨hk, c2, L, loc, F, t2, S⟩ := h
  obtain ⟨c2', F', s⟩ := F.inn hk t2 hs hp h0
  exact ⟨hk, c2', L, loc, F', s.tidy, S.keep s (fun c hc => by omega) (by omega)⟩
theorem PRr.good (h : PRr col k w g m) : GoodR m := by
  obtain ⟨_, _, _, _, _, _, _, _, _, _, _, _, _, R, _⟩ := h
  exact R.good
theorem DidR.out (h : DidR c2 w g m w') (F : Fine k col c2) (hk : 1 ≤ k) (ht : Tidy col w) : DidPR PRr col k w g m w' := by
  obtain ⟨c3, L, loc, S, s⟩ := h
  obtain ⟨col', F', s'⟩ := F.out hk ht s (fun c hc => by omega)
  exact ⟨col', ⟨hk, c3, L, loc, F', s.tidy, S⟩, s'⟩
theorem RkI.new {n : Nat} (h1 : 1 ≤ n) (h8 : n ≤ 8192) : RkI (newC Int n) [] (fun _ => none) :=
  ⟨⟨newC_good h1 h8, List.Pairwise.nil, fun p hp => by cases hp⟩, rfl, List.Pairwise.nil, fun e he => (by cases he), fun e he => (by cases he), fun e he => (by cases he), fun e he => (by cases he), List.nodup_nil, fun id b k => ⟨fun h => (by cases h), fun ⟨e, he, _⟩ => (by cases he)⟩⟩
set_option maxHeartbeats 1000000 in
theorem rnew_any (ht : Tidy col w) (hT : TbC col w) (hk : 1 ≤ k) (n : Int) (hn : J64 n) : Calls Tryz.prog 49 #[.int .i64 n] w (NewPR PRr col k n w) := by
  have F0 := fineOf_fine hk col
  have t0 := fineOf_tidy (k := k) ht
  have T0 : TbC (fineOf k col) w := ⟨hT.tab, (F0 _).1 hT.col0⟩
  have hC := lnewb_any (k := 32) t0 T0 (by omega) n hn
  have hFt := Lib.hid (And.intro F0 (And.intro t0 (And.intro ht hk)))
  generalize fineOf k col = c2 at *
  unfold J64 at hn
  by_cases h1 : 1 ≤ n ∧ n ≤ 8192
  rotate_left
  · have HE := Lib.hid (show rnkE n = 1 from if_pos (by omega))
    clear F0 t0 T0 hT
    go_enter Tryz.func49, Tryz.ntmps49
    go_wp2_with fail
    refine hC.mono ?_
    rintro e w1 (⟨h0, _⟩ | ⟨_, rfl, b1⟩)
    · exact absurd h0 (by unfold lstE; rw [if_pos (by omega)]; decide)
    clear hC
    go_wp2
    go_ret2
    exact .inr ⟨HE.out, rfl, b1⟩
  obtain ⟨q, rfl⟩ : ∃ q : Nat, n = (q : Int) := ⟨n.toNat, by omega⟩
  have HE := Lib.hid (show rnkE (q : Int) = 0 from if_neg (by omega))
  obtain ⟨CS, hmk, hOw⟩ := make_any kPl (n := q) (by omega) (z := (false, 0, 0)) rfl
  have hmk' : ∀ W : World, (Instr.makeSlice 110 (.int .i64 (q : Int)) (.int .i64 (q : Int))).run Tryz.prog W = .ok (.slice (some ⟨W.heap.size, 0, none⟩) q q) (W.alloc (.cells CS 125)) := hmk
  have hO := Lib.hid hOw
  clear F0 t0 T0 hT hmk hOw
  go_enter Tryz.func49, Tryz.ntmps49
  go_wp2_with fail
  refine hC.mono ?_
  rintro e w1 (⟨_, gB, rfl, c3, HB, s3⟩ | ⟨h0, _, _⟩)
  rotate_left
  · exact absurd h0 (by unfold lstE; rw [if_neg (by omega)]; decide)
  clear hC
  rw [Int.toNat_natCast] at HB
  have HD := Lib.hid (show DidPR PRr col k w (w1.heap.size + 1) (newC Int q) ((w1.alloc (.cells CS 125)).alloc (.cells #[.int .i64 0, .slice (some ⟨w1.heap.size, 0, none⟩) q q, .pointer (some ⟨gB, 0, none⟩)] 112)) from by
    obtain ⟨F, t2, ht, hk⟩ := hFt.out
    have s4 := StepC.new s3.tidy (.cells CS 125) 17 (fun _ => False)
    have R4 : OwnKc kPl (dye c3 (some w1.heap.size) 17) (w1.alloc (.cells CS 125)) 17 (.slice (some ⟨w1.heap.size, 0, none⟩) q q) (List.replicate q (false, 0, 0)) := ⟨hO.out w1, HasCol.dye (.slice (some ⟨w1.heap.size, 0, none⟩) q q) 17⟩
    have s5 := StepC.new s4.tidy (.cells #[.int .i64 0, .slice (some ⟨w1.heap.size, 0, none⟩) q q, .pointer (some ⟨gB, 0, none⟩)] 112) 16 (fun _ => False)
    have sA : StepC (fun c => 16 ≤ c) c2 w _ _ := (s3.mono (fun c hc => by have := hc.1; omega)).trans ((s4.mono (fun c hc => hc.elim)).trans (s5.mono (fun c hc => hc.elim)))
    have HB5 := (HB.keep s4 (fun _ _ h => h) (fun h => h)).keep s5 (fun _ _ h => h) (fun h => h)
    have hsz : (w1.alloc (.cells CS 125)).heap.size = w1.heap.size + 1 := by simp
    refine DidR.out ⟨_, [], fun _ => none, ⟨w1.heap.size, q, q, gB, 0, newC (Int × Option Addr) q, ⟨⟨?_, ?_⟩, ?_, ⟨HB5, rfl, fun e he => (by cases he), List.nodup_nil, fun e he => (by cases he)⟩⟩, RkI.new (by omega) (by omega), rfl⟩, sA⟩ F hk ht
    · have := heap_alloc_new (w1.alloc (.cells CS 125)) (.cells #[.int .i64 0, .slice (some ⟨w1.heap.size, 0, none⟩) q q, .pointer (some ⟨gB, 0, none⟩)] 112)
      rw [hsz] at this
      exact this
    · rw [hsz]; exact dye_of
    · have hrep : (List.range (newC Int q).n).map (plc fun _ => none) = List.replicate q (false, 0, 0) := by
        show (List.range q).map (fun _ => ((false, 0, 0) : Plc)) = _
        rw [List.map_const', List.length_range]
      rw [hrep]
      exact R4.keep s5 (fun h => h))
  clear HB s3 hFt hO
  go_wp2
  go_ret2
  exact .inl ⟨HE.out, w1.heap.size + 1, rfl, HD.out⟩
theorem rnilCount (w : World) (z : Int) : Calls Tryz.prog 71 #[.pointer none, .int .i64 z] w fun e w' => e = .returned (.tuple #[.int .u64 0, .bool false]) ∧ Below w.heap.size w w' := by
  go_enter Tryz.func71, Tryz.ntmps71
  go_wp2
  go_ret2
  exact ⟨rfl, Below.refl _ _⟩
theorem rnilLen (w : World) : Calls Tryz.prog 63 #[.pointer none] w fun e w' => e = .returned (.int .i64 0) ∧ Below w.heap.size w w' := by
  go_enter Tryz.func63, Tryz.ntmps63
  go_wp2
  go_ret
  exact ⟨rfl, Below.refl _ _⟩
end
end Go.Proofs.YtlfhkhnhcckajaaGreatDoor
