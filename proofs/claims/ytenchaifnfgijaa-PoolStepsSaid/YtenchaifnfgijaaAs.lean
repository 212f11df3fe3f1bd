/- Words laid together in one text. Conditions: none beyond those typed. -/
import Derived.Test.YtenchaifnfgijaaAref4
import Derived.Deep.RegionLaw
import Derived.Deep.OwnRows
import Derived.Test.YtenchaifnfgijaaEdeck
/- The specified arena in memory: Usage. Conditions: none beyond those typed. -/
namespace Go.Proofs.Ytenchaifnfgijaa
open Go.ChangeShapes Go.WideShapes Go.ChangeAt Go.RowKit
set_option linter.unusedVariables false
set_option linter.unusedSimpArgs false
set_option maxRecDepth 100000

/-- Block g holds these cells. -/
def Bx (w : World) (g : Nat) (cs : Array Value) (t : TypeId) : Prop := w.heap[g]? = some (.cells cs t (0, 0))
section
variable {w w' : World} {g : Nat} {cs : Array Value} {t : TypeId}
theorem Bx.new (w : World) (cs : Array Value) (t : TypeId) : Bx (w.alloc (.cells cs t)) w.heap.size cs t := heap_alloc_new w _
theorem Bx.lt (h : Bx w g cs t) : g < w.heap.size := (Array.getElem?_eq_some_iff.1 h).1
theorem Bx.far (h : Bx w g cs t) (hb : w'.heap[g]? = w.heap[g]?) : Bx w' g cs t := hb.trans h
theorem Bx.below (h : Bx w g cs t) (hb : Below w.heap.size w w') : Bx w' g cs t := h.far (hb.block g h.lt)
theorem Bx.other (h : Bx w g cs t) {a : Addr} {u : Value} (hn : g ≠ a.block) : Bx (w.setCell a u) g cs t := h.far (Below.heap_setCell _ _ _ _ hn)
theorem Bx.cell (h : Bx w g cs t) (i : Nat) {u : Value} (hu : cs[i]? = some u) : w.cell? ⟨g, i, none⟩ = some u := by rw [Lib.cell_of_heap h]; exact hu
theorem Bx.free (h : Bx w g cs t) (i : Nat) : w.frozen? ⟨g, i, none⟩ = false := by have : w.heap[g]? = _ := h; simp [World.frozen?, this]
theorem Bx.put (h : Bx w g cs t) (i : Nat) (u : Value) : Bx (w.setCell ⟨g, i, none⟩ u) g (cs.setIfInBounds i u) t := by
  have : w.heap[g]? = _ := h
  unfold Bx
  simp [World.setCell, Array.getElem?_modify, this]
end
theorem OwnK.other {α : Type} {K : Kind α} {w : World} {v : Value} {l : List α} (h : OwnK K w v l) {a : Addr} {u : Value} (hn : ∀ q, v.ownBlock = some q → q ≠ a.block) : OwnK K (w.setCell a u) v l := h.far fun q hq => Below.heap_setCell _ _ _ _ (hn q hq)
/-- make([]int, n). -/
theorem OwnK.zeros (w : World) (n : Nat) (hn : n ≤ maxLen) {h : Nat} (e : h = w.heap.size) : OwnK kI (w.alloc (.cells (madeCells #[Value.int .i64 0] n) 3)) (.slice (some ⟨h, 0, none⟩) n n) (List.replicate n 0) := by
  subst e
  refine ⟨by rw [cellsK_length], .inr ⟨w.heap.size, n, _, by simp, Nat.zero_le _, heap_alloc_new w _, by simp, hn, by simp [madeCells, kI], ?_⟩⟩
  have e2 : cellsK kI (List.replicate n 0) = List.replicate n (Value.int .i64 0) := by
    induction n with
    | zero => rfl
    | succ m ih => rw [List.replicate_succ, cellsK_cons, ih (by omega), List.replicate_succ]; rfl
  rw [e2, toList_madeCells_one]
  simp [kI]

theorem liveL_at {n c : Nat} {s : List Sl} (h : c < n) : (liveL n s)[c]? = some ((liveN s c : Nat) : Int) := by simp [liveL, h]
theorem liveL_len (n : Nat) (s : List Sl) : (liveL n s).length = n := by simp [liveL]
theorem take_snoc {s : List Sl} {m : Nat} {y : Sl} (h : s[m]? = some y) : s.take (m + 1) = s.take m ++ [y] := by rw [List.take_add_one, h]; rfl
theorem live_off {n m : Nat} {s : List Sl} {y : Sl} (h : s[m]? = some y) (hu : y.u = false) : liveL n (s.take (m + 1)) = liveL n (s.take m) := by
  rw [take_snoc h]
  unfold liveL
  apply List.map_congr_left
  intro c _
  simp [liveN, List.countP_append, hu]
theorem live_on {n m : Nat} {s : List Sl} {y : Sl} (h : s[m]? = some y) (hu : y.u = true) : liveL n (s.take (m + 1)) = (liveL n (s.take m)).set y.c (((liveN (s.take m) y.c : Nat) : Int) + 1) := by
  rw [take_snoc h]
  apply List.ext_getElem?
  intro c
  rw [List.getElem?_set]
  by_cases hc : c < n
  · rw [liveL_at hc, liveL_at hc, liveL_len]
    by_cases e : y.c = c
    · subst e
      simp [hc, liveN, List.countP_append, hu]
    · simp [e, liveN, List.countP_append, hu]
  · have h1 : (liveL n (s.take m ++ [y]))[c]? = none := List.getElem?_eq_none (by rw [liveL_len]; omega)
    have h2 : (liveL n (s.take m))[c]? = none := List.getElem?_eq_none (by rw [liveL_len]; omega)
    rw [h1, h2, liveL_len]
    by_cases e : y.c = c
    · rw [if_pos e, if_neg (by omega)]
    · rw [if_neg e]
theorem bytes_off {L : List (Int × Int)} {m : Nat} {s : List Sl} {y : Sl} (h : s[m]? = some y) (hu : y.u = false) : bytesN L (s.take (m + 1)) = bytesN L (s.take m) := by
  rw [take_snoc h]; simp [bytesN, hu]
theorem bytes_on {L : List (Int × Int)} {m : Nat} {s : List Sl} {y : Sl} (h : s[m]? = some y) (hu : y.u = true) : bytesN L (s.take (m + 1)) = bytesN L (s.take m) + (L.getD y.c (0, 0)).1 := by
  rw [take_snoc h]; simp [bytesN, hu]
theorem bytes_bd {L : List (Int × Int)} (hL : ∀ x ∈ L, 1 ≤ x.1 ∧ x.1 ≤ 4096 ∧ 0 ≤ x.2 ∧ x.2 ≤ 65536) : ∀ s : List Sl, 0 ≤ bytesN L s ∧ bytesN L s ≤ s.length * 4096
  | [] => by simp [bytesN]
  | y :: r => by
    have ih := bytes_bd hL r
    have e : bytesN L (y :: r) = (if y.u then (L.getD y.c (0, 0)).1 else 0) + bytesN L r := by simp [bytesN]
    have h1 : 0 ≤ (L.getD y.c (0, 0)).1 ∧ (L.getD y.c (0, 0)).1 ≤ 4096 := by
      rw [List.getD_eq_getElem?_getD]
      cases hc : L[y.c]? with
      | none => simp
      | some z => have := hL z (List.mem_of_getElem? hc); simp; omega
    rw [e, List.length_cons]
    split <;> omega
/-- What stands in a round of Usage: m slots are counted. -/
structure UsR (w : World) (x : ASt) (bu bl : Nat) (m : Nat) (W : World) : Prop where
  below : Below w.heap.size w W
  res : Bx W w.heap.size #[.slice none 0 0, .int .i64 0, .int .i64 0] 56
  ub : w.heap.size < bu ∧ w.heap.size < bl ∧ bu ≠ bl
  box : Bx W bu #[.slice (some ⟨bl, 0, none⟩) x.L.length x.L.length, .int .i64 (bytesN x.L (x.s.take m)), .int .i64 (x.fa : Int)] 56
  row : OwnK kI W (.slice (some ⟨bl, 0, none⟩) x.L.length x.L.length) (liveL x.L.length (x.s.take m))
theorem live_nil (n : Nat) : liveL n [] = List.replicate n 0 := by
  apply List.ext_getElem?
  intro i
  by_cases h : i < n
  · rw [liveL_at h]; simp [liveN, h]
  · rw [List.getElem?_eq_none (by rw [liveL_len]; omega), List.getElem?_eq_none (by simp; omega)]
theorem UsR.alloc {w W : World} {x : ASt} {bu bl m : Nat} (h : UsR w x bu bl m W) (o : Obj) : UsR w x bu bl m (W.alloc o) :=
  have hb : Below W.heap.size W (W.alloc o) := (Below.refl _ _).alloc (Nat.le_refl _) o
  ⟨h.below.alloc h.below.size o, h.res.below hb, h.ub, h.box.below hb, h.row.below hb⟩
theorem UsR.drew {w W : World} {x : ASt} {bu bl m : Nat} (h : UsR w x bu bl m W) : UsR w x bu bl m W.drew := ⟨h.below.drew, h.res, h.ub, h.box, h.row⟩
theorem UsR.init1 (w : World) (x : ASt) (hn : x.L.length ≤ 8) : UsR w x (w.heap.size + 1 + 1) (w.heap.size + 1) 0 (((w.alloc (.cells #[.slice none 0 0, .int .i64 0, .int .i64 0] 56)).alloc (.cells (madeCells #[Value.int .i64 0] x.L.length) 3)).alloc (.cells #[.slice (some ⟨w.heap.size + 1, 0, none⟩) x.L.length x.L.length, .int .i64 0, .int .i64 (x.fa : Int)] 56)).drew := by
  have b1 : Below w.heap.size w (w.alloc (.cells #[.slice none 0 0, .int .i64 0, .int .i64 0] 56)) := (Below.refl _ _).alloc (Nat.le_refl _) _
  have b2 := b1.alloc b1.size (.cells (madeCells #[Value.int .i64 0] x.L.length) 3)
  have e1 := (Bx.new w #[.slice none 0 0, .int .i64 0, .int .i64 0] 56).below ((Below.refl _ _).alloc (Nat.le_refl _) (.cells (madeCells #[Value.int .i64 0] x.L.length) 3))
  have e2 := e1.below ((Below.refl _ _).alloc (Nat.le_refl _) (.cells #[.slice (some ⟨w.heap.size + 1, 0, none⟩) x.L.length x.L.length, .int .i64 0, .int .i64 (x.fa : Int)] 56))
  refine ⟨(b2.alloc b2.size _).drew, e2, ⟨by omega, by omega, by omega⟩, ?_, ?_⟩
  · have := Bx.new ((w.alloc (.cells #[.slice none 0 0, .int .i64 0, .int .i64 0] 56)).alloc (.cells (madeCells #[Value.int .i64 0] x.L.length) 3)) #[.slice (some ⟨w.heap.size + 1, 0, none⟩) x.L.length x.L.length, .int .i64 0, .int .i64 (x.fa : Int)] 56
    rw [show ((w.alloc (.cells #[.slice none 0 0, .int .i64 0, .int .i64 0] 56)).alloc (.cells (madeCells #[Value.int .i64 0] x.L.length) 3)).heap.size = w.heap.size + 1 + 1 by simp] at this
    exact this
  · rw [List.take_zero, live_nil]
    exact (OwnK.zeros _ x.L.length (by simp only [maxLen]; omega) (by simp)).alloc _
theorem UsR.init2 (w : World) (x : ASt) (hn : x.L.length ≤ 8) : UsR w x (w.heap.size + 1) (w.heap.size + 1 + 1) 0 (((w.alloc (.cells #[.slice none 0 0, .int .i64 0, .int .i64 0] 56)).alloc (.cells #[.slice (some ⟨w.heap.size + 1 + 1, 0, none⟩) x.L.length x.L.length, .int .i64 0, .int .i64 (x.fa : Int)] 56)).alloc (.cells (madeCells #[Value.int .i64 0] x.L.length) 3)).drew := by
  have b1 : Below w.heap.size w (w.alloc (.cells #[.slice none 0 0, .int .i64 0, .int .i64 0] 56)) := (Below.refl _ _).alloc (Nat.le_refl _) _
  have b2 := b1.alloc b1.size (.cells #[.slice (some ⟨w.heap.size + 1 + 1, 0, none⟩) x.L.length x.L.length, .int .i64 0, .int .i64 (x.fa : Int)] 56)
  have e1 := (Bx.new w #[.slice none 0 0, .int .i64 0, .int .i64 0] 56).below ((Below.refl _ _).alloc (Nat.le_refl _) (.cells #[.slice (some ⟨w.heap.size + 1 + 1, 0, none⟩) x.L.length x.L.length, .int .i64 0, .int .i64 (x.fa : Int)] 56))
  have e2 := e1.below ((Below.refl _ _).alloc (Nat.le_refl _) (.cells (madeCells #[Value.int .i64 0] x.L.length) 3))
  refine ⟨(b2.alloc b2.size _).drew, e2, ⟨by omega, by omega, by omega⟩, ?_, ?_⟩
  · have := Bx.new (w.alloc (.cells #[.slice none 0 0, .int .i64 0, .int .i64 0] 56)) #[.slice (some ⟨w.heap.size + 1 + 1, 0, none⟩) x.L.length x.L.length, .int .i64 0, .int .i64 (x.fa : Int)] 56
    rw [show (w.alloc (.cells #[.slice none 0 0, .int .i64 0, .int .i64 0] 56)).heap.size = w.heap.size + 1 by simp] at this
    have := this.below ((Below.refl _ _).alloc (Nat.le_refl _) (.cells (madeCells #[Value.int .i64 0] x.L.length) 3))
    exact this
  · rw [List.take_zero, live_nil]
    exact OwnK.zeros _ x.L.length (by simp only [maxLen]; omega) (by simp)
set_option maxHeartbeats 4000000 in
theorem arUsage {col : Col} {k g : Nat} {w : World} {x : ASt} (H : RefA col k w g x) (ht : Tidy col w) (hlt : x.t ≤ 1000000000) :
    Calls Try.prog 28 #[.pointer (some ⟨g, 0, none⟩)] w
      fun e w' => ∃ A c, e = .returned (.agg #[.slice A x.L.length c, .int .i64 (bytesN x.L x.s), .int .i64 (x.fa : Int)]) ∧ RdG kI w' A x.L.length c (liveL x.L.length x.s) ∧ Below w.heap.size w w' := by
  obtain ⟨hG, AL, cL, vS, vF, vN, R, H⟩ := H
  have hl8 := hG.l.n8
  have hok := hG.l.ok
  have hfew := hG.few
  have hfa := hG.fa
  have hlen := H.len
  obtain ⟨AS, cS, rfl, hrS, _⟩ := H.sl.own.form (n := x.s.length) hlen
  have hcapS := hrS.cap
  have hmaxS := hrS.max
  have hcapL := H.cls.rd.cap
  have hmaxL := H.cls.rd.max
  have hB0 : Below w.heap.size w (w.alloc (.cells #[.slice none 0 0, .int .i64 0, .int .i64 0] 56)) := (Below.refl _ _).alloc (Nat.le_refl _) _
  have H0 := H.below ht hB0
  obtain ⟨x0, x1, x2, x3, x4⟩ := H0.cells
  have hmk := run_make_row' (P := Try.prog) 22 3 (.int .i64 0) 8 Try.underlying22 kI.info rfl .i64 .i64 x.L.length (by omega) (by omega)
  have hg0 := H.box.lt
  have y0 : ∀ o, ((w.alloc (.cells #[.slice none 0 0, .int .i64 0, .int .i64 0] 56)).alloc o).cell? ⟨g, 0, none⟩ = some (.slice AL x.L.length cL) := fun o => c_keep x0 ((Below.refl _ _).alloc (Nat.le_refl _) o)
  have y4 : ∀ o, ((w.alloc (.cells #[.slice none 0 0, .int .i64 0, .int .i64 0] 56)).alloc o).cell? ⟨g, 4, none⟩ = some (.int .i64 (x.fa : Int)) := fun o => c_keep x4 ((Below.refl _ _).alloc (Nat.le_refl _) o)
  have z0 : ∀ o o', (((w.alloc (.cells #[.slice none 0 0, .int .i64 0, .int .i64 0] 56)).alloc o).alloc o').cell? ⟨g, 0, none⟩ = some (.slice AL x.L.length cL) := fun o o' => c_keep (y0 o) ((Below.refl _ _).alloc (Nat.le_refl _) o')
  have z4 : ∀ o o', (((w.alloc (.cells #[.slice none 0 0, .int .i64 0, .int .i64 0] 56)).alloc o).alloc o').cell? ⟨g, 4, none⟩ = some (.int .i64 (x.fa : Int)) := fun o o' => c_keep (y4 o) ((Below.refl _ _).alloc (Nat.le_refl _) o')
  clear x1 x2 x3 hrS H0
  go_enter Try.func28, Try.ntmps28
  go_wp2
  have U1 := UsR.init1 w x hl8
  have U2 := UsR.init2 w x hl8
  go_region
  all_goals
    first
      | (obtain ⟨W1, hW1⟩ : ∃ W1, W1 = (((w.alloc (.cells #[.slice none 0 0, .int .i64 0, .int .i64 0] 56)).alloc (.cells (madeCells #[Value.int .i64 0] x.L.length) 3)).alloc (.cells #[.slice (some ⟨w.heap.size + 1, 0, none⟩) x.L.length x.L.length, .int .i64 0, .int .i64 (x.fa : Int)] 56)).drew := ⟨_, rfl⟩
         rw [← hW1] at U1 ⊢
         clear hW1 U2 y0 y4 z0 z4 x0 x4 hmk hB0
         generalize w.heap.size + 1 + 1 = bu at *
         generalize w.heap.size + 1 = bl at *
         generalize hU : U1 = U at *
         clear hU)
      | (obtain ⟨W1, hW1⟩ : ∃ W1, W1 = (((w.alloc (.cells #[.slice none 0 0, .int .i64 0, .int .i64 0] 56)).alloc (.cells #[.slice (some ⟨w.heap.size + 1 + 1, 0, none⟩) x.L.length x.L.length, .int .i64 0, .int .i64 (x.fa : Int)] 56)).alloc (.cells (madeCells #[Value.int .i64 0] x.L.length) 3)).drew := ⟨_, rfl⟩
         rw [← hW1] at U2 ⊢
         clear hW1 U1 y0 y4 z0 z4 x0 x4 hmk hB0
         generalize w.heap.size + 1 + 1 = bl at *
         generalize w.heap.size + 1 = bu at *
         generalize hU : U2 = U at *
         clear hU)
    have q1 := (H.below ht U.below).cells.2.1
    go_wp2
    go_loopw [22] (fun i wr => ∃ m : Nat, m ≤ x.s.length ∧ i = .int .i64 m ∧ UsR w x bu bl m wr) (fun i _ => x.s.length - (intOf i).toNat)
    case atStart => exact ⟨0, Nat.zero_le _, rfl, U⟩
    case round =>
      clear U q1
      obtain ⟨m, hm, rfl, U⟩ := hrel
      by_cases hml : m < x.s.length
      · obtain ⟨⟨y, A', n', c'⟩, hr⟩ : ∃ r, R[m]? = some r := ⟨_, List.getElem?_eq_getElem (by omega)⟩
        have hy := H.at_ hr
        have HW := H.below ht U.below
        obtain ⟨bS, rfl, hbS⟩ := H.sl.own.head (by omega)
        obtain ⟨s0, s1, s2, s3, s4⟩ := kS_cells HW.sl.own hr
        have hmi : (m : Int) < (x.s.length : Int) := by omega
        have hyc := (hG.sl y (List.mem_of_getElem? hy)).1
        have HY := Lib.hid hy
        have HR := Lib.hid hr
        have hU := Lib.hid U
        obtain ⟨yc, yi, ya, yu, yb⟩ := y
        cases yu with
        | false =>
          have UA := (UsR.mk U.below U.res U.ub (by have := U.box; rwa [← bytes_off (L := x.L) hy rfl] at this) (by have := U.row; rwa [← live_off (n := x.L.length) hy rfl] at this) : UsR w x bu bl (m + 1) wr)
          clear hy hr HW U
          simp only at s0 s1 s2 s3 s4
          go_wp2
          go_roundw
          case rel => exact ⟨m + 1, by omega, by go_num, UA.alloc _⟩
          case measure => (simp [intOf] <;> omega)
        | true =>
          have hn := (hG.sl _ (List.mem_of_getElem? hy)).1
          simp only at hn
          obtain ⟨bL, oL, z1, z2, rfl, hz, hzm, hbL, l0, l1⟩ := H.cls.rd.atC hn
          have hzb := hok _ hzm
          simp only at hzb s0 s1 s2 s3 s4
          have UA := U.alloc (.cells #[.int .i64 (yc : Int), .int .i64 (yi : Int), .int .i64 (ya : Int), .bool true, .slice A' n' c'] 98)
          have BA : Below wr.heap.size wr (wr.alloc (.cells #[.int .i64 (yc : Int), .int .i64 (yi : Int), .int .i64 (ya : Int), .bool true, .slice A' n' c'] 98)) := (Below.refl _ _).alloc (Nat.le_refl _) _
          have XA := Bx.new wr #[.int .i64 (yc : Int), .int .i64 (yi : Int), .int .i64 (ya : Int), .bool true, .slice A' n' c'] 98
          have q0 := H.cells.1
          have hbl := U.row.lt bl rfl
          have hst := HW.sl.col
          have hlv := liveL_at (s := x.s.take m) hn
          have u0 := UA.box.cell 0 rfl
          have u1 := UA.box.cell 1 rfl
          have v0 := UA.row.cell (j := yc) (i := 0) hlv rfl
          rw [show yc * kI.k + 0 = yc by simp [kI]] at v0
          have vf := UA.row.free yc
          have uf := UA.box.free 1
          have hlb : liveN (x.s.take m) yc ≤ 524288 := by
            have h1 : liveN (x.s.take m) yc ≤ (x.s.take m).length := List.countP_le_length
            rw [List.length_take] at h1; omega
          generalize hLV : liveN (x.s.take m) yc = LV at *
          have hyi : (yc : Int) < (x.L.length : Int) := by omega
          have hub := UA.ub
          have BS : Below (wr.setCell ⟨bl, yc, none⟩ (.int .i64 ((LV : Int) + 1))).heap.size (wr.setCell ⟨bl, yc, none⟩ (.int .i64 ((LV : Int) + 1))) ((wr.setCell ⟨bl, yc, none⟩ (.int .i64 ((LV : Int) + 1))).alloc (.cells #[.int .i64 (yc : Int), .int .i64 (yi : Int), .int .i64 (ya : Int), .bool true, .slice A' n' c'] 98)) := (Below.refl _ _).alloc (Nat.le_refl _) _
          have rB := U.row.store hlv (i := 0) (a' := (LV : Int) + 1) (u := .int .i64 ((LV : Int) + 1)) K_one rfl
          rw [show yc * kI.k + 0 = yc by simp [kI], ← hLV, ← live_on (n := x.L.length) hy rfl, hLV] at rB
          have rB := rB.below BS
          have bB := (U.box.other (a := ⟨bl, yc, none⟩) (u := .int .i64 ((LV : Int) + 1)) hub.2.2).below BS
          have eB := (U.res.other (a := ⟨bl, yc, none⟩) (u := .int .i64 ((LV : Int) + 1)) (by show w.heap.size ≠ bl; omega)).below BS
          have BB1 := U.below.setCell (p := ⟨bl, yc, none⟩) (by show w.heap.size ≤ bl; omega) (.int .i64 ((LV : Int) + 1))
          have BB := BB1.alloc BB1.size (.cells #[.int .i64 (yc : Int), .int .i64 (yi : Int), .int .i64 (ya : Int), .bool true, .slice A' n' c'] 98)
          have xB := Bx.new (wr.setCell ⟨bl, yc, none⟩ (.int .i64 ((LV : Int) + 1))) #[.int .i64 (yc : Int), .int .i64 (yi : Int), .int .i64 (ya : Int), .bool true, .slice A' n' c'] 98
          rw [show (wr.setCell ⟨bl, yc, none⟩ (.int .i64 ((LV : Int) + 1))).heap.size = wr.heap.size by simp [World.setCell]] at xB
          have hbd := bytes_bd hok (x.s.take m)
          have hbl2 : (x.s.take m).length ≤ 524288 := by rw [List.length_take]; omega
          have hon := bytes_on (L := x.L) hy rfl
          rw [getD_at hz] at hon
          have hON := Lib.hid hon
          have hwr : IntKind.i64.wrap (bytesN x.L (x.s.take m) + z1) = bytesN x.L (x.s.take m) + z1 := by rw [IntKind.wrap_i64]; omega
          generalize hBY : bytesN x.L (x.s.take m) = BY at *
          have hHY := Lib.hid hBY
          clear hy hr HW U XA UA BS BB1 l1 hzm hon hz hlv hLV hU hBY
          go_wp2
          obtain ⟨WB, hWB⟩ : ∃ WB, WB = (wr.setCell ⟨bl, yc, none⟩ (.int .i64 ((LV : Int) + 1))).alloc (.cells #[.int .i64 (yc : Int), .int .i64 (yi : Int), .int .i64 (ya : Int), .bool true, .slice A' n' c'] 98) := ⟨_, rfl⟩
          rw [← hWB] at rB bB eB BB xB ⊢
          clear hWB u0 u1 v0 vf uf s0 s1 s2 s3 s4
          have q5 := c_keep q0 BB
          have l5 := c_keep l0 BB
          have u5' : WB.cell? ⟨bu, 1, none⟩ = some (.int .i64 BY) := bB.cell 1 rfl
          have f5 := bB.free 1
          have x5 : WB.cell? ⟨wr.heap.size, 0, none⟩ = some (.int .i64 (yc : Int)) := xB.cell 0 rfl
          have UC : UsR w x bu bl (m + 1) (WB.setCell ⟨bu, 1, none⟩ (.int .i64 (BY + z1))) := ⟨BB.setCell (p := ⟨bu, 1, none⟩) (by show w.heap.size ≤ bu; omega) _, eB.other (by show w.heap.size ≠ bu; omega), hub, by
            rw [hON.out]; exact bB.put 1 (.int .i64 (BY + z1)), rB.other fun q hq => by simp [Value.ownBlock] at hq; show q ≠ bu; omega⟩
          have hUC := Lib.hid UC
          clear rB bB eB BB xB UC q0 l0 hst
          go_region
          all_goals
            go_wp2
            go_roundw
            case rel => exact ⟨m + 1, by omega, by go_num, hUC.out.drew⟩
            case measure => (simp [intOf] <;> omega)
      · have hmm : x.s.take m = x.s := List.take_of_length_le (by omega)
        have Ub := U.box
        have Ur := U.row
        rw [hmm] at Ub Ur
        have u0 := Ub.cell 0 rfl
        have u1 := Ub.cell 1 rfl
        have u2 := Ub.cell 2 rfl
        have r0 := U.res.cell 0 rfl
        have r1 := U.res.cell 1 rfl
        have r2 := U.res.cell 2 rfl
        have f0 := U.res.free 0
        have f1 := U.res.free 1
        have f2 := U.res.free 2
        have hU := Lib.hid U
        have hUr := Lib.hid Ur
        have hub := U.ub
        have hRX := Lib.hid (((U.res.put 0 (.slice (some ⟨bl, 0, none⟩) x.L.length x.L.length)).put 1 (.int .i64 (bytesN x.L x.s))).put 2 (.int .i64 (x.fa : Int)))
        have hBX := Lib.hid (((U.below.setCell (p := ⟨w.heap.size, 0, none⟩) (Nat.le_refl _) (.slice (some ⟨bl, 0, none⟩) x.L.length x.L.length)).setCell (p := ⟨w.heap.size, 1, none⟩) (Nat.le_refl _) (.int .i64 (bytesN x.L x.s))).setCell (p := ⟨w.heap.size, 2, none⟩) (Nat.le_refl _) (.int .i64 (x.fa : Int)))
        have hne : ∀ q, (Value.slice (some ⟨bl, 0, none⟩) x.L.length x.L.length).ownBlock = some q → q ≠ w.heap.size := fun q hq => by simp [Value.ownBlock] at hq; omega
        clear U Ub Ur
        go_wp2
        refine bodyPost_ret (results_cell_row rfl _ _ w.heap.size _ _ (0, 0) _ rfl hRX.out Try.underlying56 rfl (by kernel_rfl)) rfl ?_
        exact ⟨_, _, rfl, (((hUr.out.other (a := ⟨w.heap.size, 0, none⟩) hne).other (a := ⟨w.heap.size, 1, none⟩) hne).other (a := ⟨w.heap.size, 2, none⟩) hne).reads, hBX.out⟩
end Go.Proofs.Ytenchaifnfgijaa

/- The specified arena in memory: NewArena, SameInts, SameUsage; Deck.Classes. Conditions: none beyond those typed. -/
namespace Go.Proofs.Ytenchaifnfgijaa
open Go.ChangeShapes Go.WideShapes Go.ChangeAt Go.RowKit
set_option linter.unusedVariables false
set_option linter.unusedSimpArgs false
set_option maxRecDepth 100000

/-- A new arena. -/
def newA (L : List (Int × Int)) : ASt := { L := L, s := [], f := [], nx := List.replicate L.length 0, fa := 0, t := 0 }
theorem newA_good {L : List (Int × Int)} (h : GoodL L) : GoodA (newA L) := by
  refine ⟨h, by simp [newA], fun c n hn => ?_, fun y hy => by simp [newA] at hy, by simp [newA], by simp [newA], by simp [newA], fun j => by simp [newA], by simp [newA]⟩
  simp only [newA, List.getElem?_replicate] at hn
  split at hn
  · rename_i hc
    injection hn with hn
    have hg : L[c]? = some L[c] := List.getElem?_eq_getElem hc
    show ((n : Nat) : Int) ≤ (L.getD c (0, 0)).2
    rw [getD_at hg]
    have := h.ok _ (List.getElem_mem hc)
    omega
  · cases hn
set_option maxHeartbeats 400000 in
theorem sameInts_any (A A' : Option Addr) (n n' c c' : Nat) (l l' : List Int) (w : World) (h : RdG kI w A n c l) (h' : RdG kI w A' n' c' l') :
    Calls Try.prog 38 #[.slice A n c, .slice A' n' c'] w fun e w' => e = .returned (.bool (decide (l = l'))) ∧ ∃ j, w' = w.drewN j := by
  have hcap := h.cap
  have hmax := h.max
  have hcap' := h'.cap
  have hmax' := h'.max
  have hl := h.len
  have hl' := h'.len
  by_cases hnn : n = n'
  · subst hnn
    go_enter Try.func38, Try.ntmps38
    go_wp2
    go_loopw [13] (fun i wr => ∃ k j : Nat, k ≤ n ∧ i = .int .i64 k ∧ l.take k = l'.take k ∧ wr = w.drewN j) (fun i _ => n - (intOf i).toNat)
    case atStart => exact ⟨0, 0, Nat.zero_le _, rfl, rfl, rfl⟩
    case round =>
      obtain ⟨k, j, hk, rfl, hq, rfl⟩ := hrel
      by_cases hlt : k < n
      · obtain ⟨b, o, p, rfl, hp, _, _, c0⟩ := h.atI hlt
        obtain ⟨b', o', p', rfl, hp', _, _, c0'⟩ := h'.atI hlt
        by_cases hpp : p = p'
        · subst hpp
          have HQ := Lib.hid (show l.take (k + 1) = l'.take (k + 1) by rw [List.take_add_one, List.take_add_one, hq, hp, hp'])
          clear hq hp hp'
          go_wp2
          go_quiet (fail)
          go_wp2
          go_roundw
          case rel => exact ⟨k + 1, _, by omega, by go_num, HQ.out, rfl⟩
          case measure => (simp [intOf] <;> omega)
        · have HN := Lib.hid (show ¬ l = l' by rintro rfl; rw [hp] at hp'; injection hp' with e; exact hpp e)
          have hne : (p != p') = true := bne_iff_ne.2 hpp
          clear hq hp hp'
          go_wp2
          go_quiet (fail)
          go_wp2
          go_ret
          exact ⟨ret_bool (by rw [decide_eq_false HN.out]), j + nq, by simp⟩
      · have HQ := Lib.hid (show l = l' by rw [List.take_of_length_le (by omega), List.take_of_length_le (by omega)] at hq; exact hq)
        clear hq
        go_wp2
        go_ret
        exact ⟨ret_bool (by rw [decide_eq_true HQ.out]), _, rfl⟩
  · have HN := Lib.hid (show ¬ l = l' by rintro rfl; omega)
    have hv : ((n : Int) != (n' : Int)) = true := bne_iff_ne.2 (by omega)
    clear hl hl'
    go_enter Try.func38, Try.ntmps38
    go_wp2
    go_ret
    exact ⟨ret_bool (by rw [decide_eq_false HN.out]), 0, rfl⟩
set_option maxHeartbeats 400000 in
/-- Equal usages. -/
theorem sameUsage_yes (A A' : Option Addr) (n c c' : Nat) (l : List Int) (b f : Int) (w : World) (h : RdG kI w A n c l) (h' : RdG kI w A' n c' l) :
    Calls Try.prog 26 #[.agg #[.slice A n c, .int .i64 b, .int .i64 f], .agg #[.slice A' n c', .int .i64 b, .int .i64 f]] w fun e w' => e = .returned (.bool true) ∧ Below w.heap.size w w' := by
  have hB : Below w.heap.size w ((w.alloc (.cells #[.slice A n c, .int .i64 b, .int .i64 f] 56)).alloc (.cells #[.slice A' n c', .int .i64 b, .int .i64 f] 56)) := ((Below.refl _ _).alloc (Nat.le_refl _) _).alloc (by simp) _
  have h2 := h.below hB
  have h2' := h'.below hB
  have X1 := (Bx.new w #[.slice A n c, .int .i64 b, .int .i64 f] 56).below ((Below.refl _ _).alloc (Nat.le_refl _) (.cells #[.slice A' n c', .int .i64 b, .int .i64 f] 56))
  have X2 := Bx.new (w.alloc (.cells #[.slice A n c, .int .i64 b, .int .i64 f] 56)) #[.slice A' n c', .int .i64 b, .int .i64 f] 56
  rw [show (w.alloc (.cells #[.slice A n c, .int .i64 b, .int .i64 f] 56)).heap.size = w.heap.size + 1 by simp] at X2
  go_enter Try.func26, Try.ntmps26
  go_wp2_with fail
  obtain ⟨W, hW⟩ : ∃ W, W = (w.alloc (.cells #[.slice A n c, .int .i64 b, .int .i64 f] 56)).alloc (.cells #[.slice A' n c', .int .i64 b, .int .i64 f] 56) := ⟨_, rfl⟩
  rw [← hW] at hB h2 h2' X1 X2 ⊢
  clear hW
  refine (sameInts_any _ _ _ _ _ _ l l W h2 h2').mono ?_
  rintro e w3 ⟨rfl, j, rfl⟩
  rw [decide_eq_true rfl]
  have e1 : W.cell? ⟨w.heap.size, 1, none⟩ = some (.int .i64 b) := X1.cell 1 rfl
  have e2 : W.cell? ⟨w.heap.size, 2, none⟩ = some (.int .i64 f) := X1.cell 2 rfl
  have d1 : W.cell? ⟨w.heap.size + 1, 1, none⟩ = some (.int .i64 b) := X2.cell 1 rfl
  have d2 : W.cell? ⟨w.heap.size + 1, 2, none⟩ = some (.int .i64 f) := X2.cell 2 rfl
  go_wp2
  go_ret
  exact ⟨rfl, below_drewN hB j⟩
/-- What NewArena has made. -/
theorem newA_fin {col : Col} {k : Nat} {w W : World} {L : List (Int × Int)} {A : Option Addr} {n c g bN : Nat} (hk : 1 ≤ k) (ht : Tidy col w) (hL : GoodL L) (hB : Below w.heap.size w W)
    (hX : Bx W g #[.slice A n c, .slice none 0 0, .slice none 0 0, .slice (some ⟨bN, 0, none⟩) n n, .int .i64 0] 75) (hN : OwnK kI W (.slice (some ⟨bN, 0, none⟩) n n) (List.replicate n 0)) (hR : RdG kC W A n c L)
    (h1 : w.heap.size ≤ g) (h2 : w.heap.size ≤ bN) (h3 : g ≠ bN) (h4 : ∀ b o sp, A = some ⟨b, o, sp⟩ → w.heap.size ≤ b ∧ b ≠ g ∧ b ≠ bN) :
    Did col k w g (newA L) W := by
  have hn := hR.len
  have s1 : StepC (Rng k) col w (dye col (some g) k) W := StepC.newRow ht hB fun b e => by injection e with e; subst e; exact ⟨h1, hX.lt⟩
  refine ⟨dye (dye col (some g) k) (some bN) (k + 3), ⟨newA_good hL, A, c, .slice none 0 0, .slice none 0 0, .slice (some ⟨bN, 0, none⟩) n n, [], ?_⟩, ?_⟩
  · refine ⟨⟨?_, ?_⟩, ⟨?_, fun hp b o sp e => ?_⟩, OwnKc.nil kS _ _ _, rfl, fun r hr => by simp at hr, OwnKc.nil kI _ _ _, ⟨?_, fun q hq => ?_⟩, hk⟩
    · show W.heap[g]? = some (.cells #[.slice A L.length c, _, _, _, .int .i64 ((0 : Nat) : Int)] _ (0, 0))
      rw [hn]; exact hX
    · rw [dye_no (by intro e; injection e with e; exact h3 e.symm)]; exact dye_of
    · show RdG kC W A L.length c L
      rw [hn]; exact hR
    · obtain ⟨e1, e2, e3⟩ := h4 b o sp e
      rw [dye_no (by intro e; injection e with e; exact e3 e.symm), dye_no (by intro e; injection e with e; exact e2 e.symm)]
      exact ht b e1
    · have : ints (newA L).nx = List.replicate n 0 := by simp [newA, ints, hn]
      rw [this]; exact hN
    · simp [Value.ownBlock] at hq; subst hq; exact dye_of
  · refine ⟨s1.os, s1.tape, s1.output, s1.size, fun b hb => ?_, fun b hb => ?_, s1.block⟩
    · rw [dye_no (by intro e; injection e with e; omega)]; exact s1.kept b hb
    · have := hN.lt bN rfl
      rw [dye_no (by intro e; injection e with e; omega)]; exact s1.tidy b hb
def NewOut (col : Col) (k : Nat) (w : World) (L : List (Int × Int)) (e : Ending) (w' : World) : Prop :=
  (clsE L = 0 ∧ ∃ g, e = .returned (.tuple #[.pointer (some ⟨g, 0, none⟩), .int .i64 0]) ∧ Did col k w g (newA L) w') ∨ (clsE L ≠ 0 ∧ e = .returned (.tuple #[.pointer none, .int .i64 (clsE L)]) ∧ Below w.heap.size w w')
set_option maxHeartbeats 1000000 in
theorem arNew {col : Col} {k : Nat} {w : World} (ht : Tidy col w) (hk : 1 ≤ k) (A : Option Addr) (n c : Nat) (L : List (Int × Int)) (hR : RdG kC w A n c L) (hn : n ≤ 1000000) (hL : ∀ x ∈ L, -9223372036854775808 ≤ x.1 ∧ x.1 ≤ 9223372036854775807 ∧ -9223372036854775808 ≤ x.2 ∧ x.2 ≤ 9223372036854775807) :
    Calls Try.prog 10 #[.slice A n c] w (NewOut col k w L) := by
  go_enter Try.func10, Try.ntmps10
  go_wp2_with fail
  refine (arClasses A n c L w hR hn hL).mono ?_
  rintro e w1 ⟨rfl, hb1⟩
  by_cases h0 : clsE L = 0
  · have hG := cls_good h0
    rw [h0]
    have hR1 := hR.below hb1
    have ht1 := ht.size hb1.size
    have hln := hR.len
    have hcap := hR.cap
    have hmx := hR.max
    have hn8 := hG.n8
    have hmk := run_make_row' (P := Try.prog) 22 3 (.int .i64 0) 8 Try.underlying22 kI.info rfl .i64 .i64 n (by omega) (by omega)
    have hby : ([] : List (Int × Int)).length + n ≤ 1000000000 := by simp; omega
    have hl0 : ([] ++ L).length = n := by simp [hln]
    have H0 := Lib.hid h0
    clear h0 hn hL
    go_wp2
    go_region_law (first | (refine step_appG kC rfl (.tmp 10) (.tmp 11) rfl (.slice (some ⟨w1.heap.size, 0, none⟩) 0 0) [] rfl A n c L rfl (by first | exact OwnK.empty kC (by simp) | exact (OwnK.empty kC (by simp)).alloc _) (hR1.below (by first | exact bd1 _ _ | exact bd2 _ _ _)) hby ?_; intro v4 w4 O4 G4 hat4; obtain ⟨A4, c4, rfl, r4, _⟩ := O4.form hl0) | (refine step_appG kC rfl (.tmp 10) (.tmp 11) rfl (.slice (some ⟨w1.heap.size + 1, 0, none⟩) 0 0) [] rfl A n c L rfl (by first | exact OwnK.empty kC (by simp) | exact (OwnK.empty kC (by simp)).alloc _) (hR1.below (by first | exact bd1 _ _ | exact bd2 _ _ _)) hby ?_; intro v4 w4 O4 G4 hat4; obtain ⟨A4, c4, rfl, r4, _⟩ := O4.form hl0))
    all_goals
      have hA4 : ∀ b o sp, A4 = some ⟨b, o, sp⟩ → (Value.slice A4 n c4).ownBlock = some b := fun b o sp e => by rw [e]; rfl
      have hlt4 := O4.lt
      have hsz := G4.size
      first
        | (have hs : w1.heap.size + 1 ≤ w4.heap.size := by simpa using hsz
           have b4 : Below w1.heap.size w1 w4 := ((Below.refl _ _).alloc (Nat.le_refl _) (.cells #[] 61)).drew.grown G4 (by simp) (fun q hq => by simp [Value.ownBlock] at hq; omega)
           have bm : Below w4.heap.size w4 (w4.alloc (.cells (madeCells #[Value.int .i64 0] n) 3)) := (Below.refl _ _).alloc (Nat.le_refl _) _
           have X := Bx.new (w4.alloc (.cells (madeCells #[Value.int .i64 0] n) 3)) #[.slice A4 n c4, .slice none 0 0, .slice none 0 0, .slice (some ⟨w4.heap.size, 0, none⟩) n n, .int .i64 0] 75
           rw [show (w4.alloc (.cells (madeCells #[Value.int .i64 0] n) 3)).heap.size = w4.heap.size + 1 by simp] at X
           have b5 := (below_then b4 bm)
           have hD := newA_fin hk ht hG (below_then hb1 (b5.alloc b5.size (.cells #[.slice A4 n c4, .slice none 0 0, .slice none 0 0, .slice (some ⟨w4.heap.size, 0, none⟩) n n, .int .i64 0] 75))) X ((OwnK.zeros w4 n (by simp only [maxLen]; omega) rfl).alloc _) ((r4.below bm).below ((Below.refl _ _).alloc (Nat.le_refl _) _)) (by have := hb1.size; omega) (by have := hb1.size; omega) (by omega) (fun b o sp e => by
             have h1 := hA4 b o sp e
             have h2 := hlt4 b h1
             have := hb1.size
             rcases hat4 with h3 | h3
             · rw [h3] at h1; simp [Value.ownBlock] at h1; omega
             · rw [h3] at h1; injection h1 with h1; simp at h1; omega)
           have hDD := Lib.hid hD
           clear hD X b5 bm b4 O4 G4 hat4 r4
           go_wp2
           go_ret2
           exact .inl ⟨H0.out, _, rfl, hDD.out⟩)
        | (have hs : w1.heap.size + 2 ≤ w4.heap.size := by simpa using hsz
           have b4 : Below w1.heap.size w1 w4 := (((Below.refl _ _).alloc (Nat.le_refl _) (.cells #[] 61)).alloc (by simp) (.cells (madeCells #[Value.int .i64 0] n) 3)).drew.grown G4 (by simp; omega) (fun q hq => by simp [Value.ownBlock] at hq; omega)
           have X := Bx.new w4 #[.slice A4 n c4, .slice none 0 0, .slice none 0 0, .slice (some ⟨w1.heap.size + 1, 0, none⟩) n n, .int .i64 0] 75
           have oN := ((OwnK.zeros (w1.alloc (.cells #[] 61)) n (by simp only [maxLen]; omega) (h := w1.heap.size + 1) (by simp)).drewN 1).grown G4 (fun q hq => by simp [Value.ownBlock] at hq ⊢; omega)
           have hD := newA_fin hk ht hG (below_then hb1 (b4.alloc b4.size (.cells #[.slice A4 n c4, .slice none 0 0, .slice none 0 0, .slice (some ⟨w1.heap.size + 1, 0, none⟩) n n, .int .i64 0] 75))) X (oN.alloc _) (r4.below ((Below.refl _ _).alloc (Nat.le_refl _) _)) (by have := hb1.size; omega) (by have := hb1.size; omega) (by omega) (fun b o sp e => by
             have h1 := hA4 b o sp e
             have h2 := hlt4 b h1
             have := hb1.size
             rcases hat4 with h3 | h3
             · rw [h3] at h1; simp [Value.ownBlock] at h1; omega
             · rw [h3] at h1; injection h1 with h1; simp at h1; omega)
           have hDD := Lib.hid hD
           clear hD X oN b4 O4 G4 hat4 r4
           go_wp2
           go_ret2
           exact .inl ⟨H0.out, _, rfl, hDD.out⟩)
        | (have hs : w1.heap.size + 2 ≤ w4.heap.size := by simpa using hsz
           have b4 : Below w1.heap.size w1 w4 := (((Below.refl _ _).alloc (Nat.le_refl _) (.cells (madeCells #[Value.int .i64 0] n) 3)).alloc (by simp) (.cells #[] 61)).drew.grown G4 (by simp; omega) (fun q hq => by simp [Value.ownBlock] at hq; omega)
           have X := Bx.new w4 #[.slice A4 n c4, .slice none 0 0, .slice none 0 0, .slice (some ⟨w1.heap.size, 0, none⟩) n n, .int .i64 0] 75
           have oN := (((OwnK.zeros w1 n (by simp only [maxLen]; omega) rfl).alloc (.cells #[] 61)).drewN 1).grown G4 (fun q hq => by simp [Value.ownBlock] at hq ⊢; omega)
           have hD := newA_fin hk ht hG (below_then hb1 (b4.alloc b4.size (.cells #[.slice A4 n c4, .slice none 0 0, .slice none 0 0, .slice (some ⟨w1.heap.size, 0, none⟩) n n, .int .i64 0] 75))) X (oN.alloc _) (r4.below ((Below.refl _ _).alloc (Nat.le_refl _) _)) (by have := hb1.size; omega) (by have := hb1.size; omega) (by omega) (fun b o sp e => by
             have h1 := hA4 b o sp e
             have h2 := hlt4 b h1
             have := hb1.size
             rcases hat4 with h3 | h3
             · rw [h3] at h1; simp [Value.ownBlock] at h1; omega
             · rw [h3] at h1; injection h1 with h1; simp at h1; omega)
           have hDD := Lib.hid hD
           clear hD X oN b4 O4 G4 hat4 r4
           go_wp2
           go_ret2
           exact .inl ⟨H0.out, _, rfl, hDD.out⟩)
  · have H0 := Lib.hid h0
    have hv : (clsE L != 0) = true := bne_iff_ne.2 h0
    clear h0 hL
    go_wp2
    go_ret2
    exact .inr ⟨H0.out, rfl, hb1⟩
end Go.Proofs.Ytenchaifnfgijaa
