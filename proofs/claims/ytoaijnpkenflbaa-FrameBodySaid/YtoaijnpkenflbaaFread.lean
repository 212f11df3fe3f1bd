/- Package frame's reading: malformed, input, readEvents, Read. Conditions: none beyond those typed. -/
import Derived.Test.YtoaijnpkenflbaaFin
import Derived.Test.YtoaijnpkenflbaaEdec
import Derived.WalkMore
namespace Go.Proofs.Ytoaijnpkenflbaa
open Go.ChangeShapes Go.WideShapes Go.ChangeAt Go.RowKit
set_option linter.unusedVariables false
set_option linter.unusedSimpArgs false
set_option maxRecDepth 100000

abbrev zeroI : Inp := (⟨#[]⟩, 0, 0, 0)
theorem mal_next {k j : Nat} (h : j < k) : (List.replicate j badI ++ List.replicate (k - j) zeroI)[j]? = some zeroI ∧ (List.replicate j badI ++ List.replicate (k - j) zeroI).set j badI = List.replicate (j + 1) badI ++ List.replicate (k - (j + 1)) zeroI := by
  obtain ⟨m, rfl⟩ : ∃ m, k = j + (m + 1) := ⟨k - j - 1, by omega⟩
  rw [show j + (m + 1) - j = m + 1 by omega, show j + (m + 1) - (j + 1) = m by omega]
  refine ⟨by rw [List.getElem?_append_right (by simp)]; simp, ?_⟩
  rw [List.set_append, if_neg (by simp)]
  rw [List.length_replicate, Nat.sub_self, List.replicate_succ (n := m), List.set_cons_zero, List.replicate_succ' (n := j), List.append_assoc]; rfl
/-- A row of wrong inputs comes back. -/
def MalOut (k : Nat) (w : World) (e : Ending) (w' : World) : Prop := ∃ v, e = .returned v ∧ OwnN w' w.heap.size v (List.replicate k badI) ∧ Below w.heap.size w w'
set_option maxHeartbeats 1000000 in
theorem malformed_any (k : Nat) (w : World) (hk : k ≤ 1000) : Calls Try.prog 28 #[.int .i64 (k : Int)] w (MalOut k w) := by
  obtain ⟨i0, hi0, hz0, hz1, hz2⟩ := info_parts info_input
  have hby : i0.bytes * k ≤ 281474976710656 := by rw [hz2]; omega
  have HZ2 := Lib.hid hz2
  have hmx : k ≤ maxLen := by simp only [maxLen]; omega
  clear hz2
  go_enter Try.func28, Try.ntmps28
  go_wp2_with (at_make; refine wpList_make_full _ rfl _ _ 43 rfl w.heap.size 51 i0 _ 4 Try.underlying43 hi0 hz0 hz1 _ _ _ _ k rfl rfl rfl rfl hby hmx (Nat.le_refl _) ?_)
  intro w1 hown hgrow
  have hb1 : Below w.heap.size w w1 := (Below.refl _ _).grown hgrow (Nat.le_refl _) (fun k hk => by cases hk)
  have hO1 := OwnN.made hown
  clear hown hgrow HZ2 hi0 hz0 hz1 hby
  go_wp2
  go_loopw [9] (fun i W => ∃ j : Nat, j ≤ k ∧ OwnN W w.heap.size (.slice (some ⟨w.heap.size, 0, none⟩) k k) (List.replicate j badI ++ List.replicate (k - j) zeroI) ∧ Below w.heap.size w W ∧ i = .int .i64 j) (fun i _ => k - (intOf i).toNat)
  case atStart => exact ⟨0, by omega, hO1, hb1, rfl⟩
  case round =>
    clear hO1 hb1
    obtain ⟨j, hj, hO, hb, rfl⟩ := hrel
    by_cases hlt : j < k
    · obtain ⟨h1, h2⟩ := mal_next hlt
      have hf := hO.free (j * 4 + 3)
      obtain ⟨b, o, hA, e0, e1, e2, e3⟩ := hO.reads.2.2.2 j _ h1
      injection hA with hA
      injection hA with e11 e12
      subst e11 e12
      have hO2 := hO.store h1 1
      rw [show ((zeroI.1, zeroI.2.1, zeroI.2.2.1, (1 : Int)) : Inp) = badI from rfl, h2] at hO2
      have hb2 := hb.setCell (p := ⟨w.heap.size, j * 4 + 3, none⟩) (Nat.le_refl _) (.int .i64 1)
      rw [Nat.zero_add] at e3
      have hbl := World.block_lt_of_cell? _ _ e3
      clear h1 h2 e0 e1 e2
      go_wp2
      go_roundw
      case rel => exact ⟨j + 1, by omega, hO2, hb2, by go_num⟩
      case measure => (simp [intOf] <;> omega)
    · obtain rfl : j = k := by omega
      rw [Nat.sub_self, List.replicate_zero, List.append_nil] at hO
      go_wp2
      go_ret
      exact ⟨_, rfl, hO, hb⟩

/-- The box of an input in block g. -/
def NBox (w : World) (g : Nat) (s : ByteArray) (t x y : Int) : Prop := w.heap[g]? = some (.cells #[.string s, .int .i64 t, .int .u64 x, .int .i64 y] 51 (0, 0))
section
variable {w w' : World} {g : Nat} {s : ByteArray} {t x y : Int}
theorem NBox.new (w : World) (s : ByteArray) (t x y : Int) : NBox (w.alloc (.cells #[.string s, .int .i64 t, .int .u64 x, .int .i64 y] 51)) w.heap.size s t x y := heap_alloc_new w _
theorem NBox.c0 (h : NBox w g s t x y) : w.cell? ⟨g, 0, none⟩ = some (.string s) := by rw [Lib.cell_of_heap h]; rfl
theorem NBox.c1 (h : NBox w g s t x y) : w.cell? ⟨g, 1, none⟩ = some (.int .i64 t) := by rw [Lib.cell_of_heap h]; rfl
theorem NBox.c2 (h : NBox w g s t x y) : w.cell? ⟨g, 2, none⟩ = some (.int .u64 x) := by rw [Lib.cell_of_heap h]; rfl
theorem NBox.c3 (h : NBox w g s t x y) : w.cell? ⟨g, 3, none⟩ = some (.int .i64 y) := by rw [Lib.cell_of_heap h]; rfl
theorem NBox.lt (h : NBox w g s t x y) : g < w.heap.size := World.block_lt_of_cell? _ ⟨g, 0, none⟩ h.c0
theorem NBox.far (h : NBox w g s t x y) (hb : w'.heap[g]? = w.heap[g]?) : NBox w' g s t x y := hb.trans h
theorem NBox.below (h : NBox w g s t x y) (hb : Below w.heap.size w w') : NBox w' g s t x y := h.far (hb.block g h.lt)
theorem NBox.frozen (h : NBox w g s t x y) (i : Nat) : w.frozen? ⟨g, i, none⟩ = false := by
  have : w.heap[g]? = _ := h
  simp [World.frozen?, this]
theorem NBox.put4 (h : NBox w g s t x y) (s' : ByteArray) (t' x' y' : Int) :
    NBox ((((w.setCell ⟨g, 0, none⟩ (.string s')).setCell ⟨g, 1, none⟩ (.int .i64 t')).setCell ⟨g, 2, none⟩ (.int .u64 x')).setCell ⟨g, 3, none⟩ (.int .i64 y')) g s' t' x' y' := by
  have h' : w.heap[g]? = _ := h
  unfold NBox
  simp [World.setCell, Array.getElem?_modify, h']
end
theorem below_put4 {B : Nat} {w0 w : World} {g : Nat} (h : Below B w0 w) (hg : B ≤ g) (v0 v1 v2 v3 : Value) : Below B w0 ((((w.setCell ⟨g, 0, none⟩ v0).setCell ⟨g, 1, none⟩ v1).setCell ⟨g, 2, none⟩ v2).setCell ⟨g, 3, none⟩ v3) :=
  (((h.setCell (p := ⟨g, 0, none⟩) hg _).setCell (p := ⟨g, 1, none⟩) hg _).setCell (p := ⟨g, 2, none⟩) hg _).setCell (p := ⟨g, 3, none⟩) hg _
/-- An input comes back. -/
def InpOut (r : Inp) (w : World) (e : Ending) (w' : World) : Prop := e = .returned (inV r) ∧ Below w.heap.size w w'
theorem inp_bad {most : Int} {l : List Tg} {t x : Int} (h : itE l t x ≠ 0) : inp most l t x = (⟨#[]⟩, 0, 0, verd (itE l t x)) := by
  unfold inp; rw [if_neg (fun hh => h hh.1), if_neg h]
theorem inp_long {most : Int} {l : List Tg} {t x : Int} (h : itE l t x = 0) (h1 : most < (keyBy l).size) : inp most l t x = (⟨#[]⟩, 0, 0, 2) := by
  unfold inp; rw [if_neg (fun hh => hh.2 h1), if_pos h]
theorem inp_ok {most : Int} {l : List Tg} {t x : Int} (h : itE l t x = 0) (h1 : ¬ most < (keyBy l).size) : inp most l t x = (keyBy l, t, x, 0) := by
  unfold inp; rw [if_pos ⟨h, h1⟩]
theorem InpOut.mk' {r r' : Inp} {w w' : World} (h : r' = r) (hb : Below w.heap.size w w') : InpOut r' w (.returned (inV r)) w' := by subst h; exact ⟨rfl, hb⟩
set_option maxHeartbeats 1000000 in
theorem input_any (A : Option Addr) (n c : Nat) (l : List Tg) (t x most : Int) (w : World) (hR : RdT w A n c l) (hn : n ≤ 1000) (hm0 : -9223372036854775808 ≤ most) (hm1 : most ≤ 9223372036854775807) :
    Calls Try.prog 48 #[.agg #[.slice A n c, .int .i64 t, .int .u64 x], .int .i64 most] w (InpOut (inp most l t x) w) := by
  have hE0 := EBox.new w A n c t x
  have hB0 : Below w.heap.size w (w.alloc (.cells #[.slice A n c, .int .i64 t, .int .u64 x] 30)) := (Below.refl _ w).alloc (Nat.le_refl _) _
  have hI1 := NBox.new (w.alloc (.cells #[.slice A n c, .int .i64 t, .int .u64 x] 30)) ⟨#[]⟩ 0 0 0
  rw [show (w.alloc (.cells #[.slice A n c, .int .i64 t, .int .u64 x] 30)).heap.size = w.heap.size + 1 from by simp] at hI1
  have hB1 := hB0.alloc hB0.size (.cells #[.string ⟨#[]⟩, .int .i64 0, .int .u64 0, .int .i64 0] 51)
  have hE1 := hE0.below ((Below.refl _ _).alloc (Nat.le_refl _) (.cells #[.string ⟨#[]⟩, .int .i64 0, .int .u64 0, .int .i64 0] 51))
  have hR1 := hR.below hB1
  have x0 := hE1.c0
  have x1 := hE1.c1
  have x2 := hE1.c2
  by_cases hz : itE l t x = 0
  · have HZ := Lib.hid hz
    have HV := Lib.hid (show itV l t x = .agg #[.string (keyBy l), .int .i64 t, .int .u64 x] from if_pos hz)
    have hks := keyBy_le l
    have HA := Lib.hid (fun h => inp_long (most := most) hz h)
    have HB := Lib.hid (fun h => inp_ok (most := most) hz h)
    clear hz
    go_enter Try.func48, Try.ntmps48
    go_wp2_with fail
    refine (item_any _ _ _ l _ _ _ hR1 hn).mono ?_
    rintro e w2 ⟨rfl, hb2⟩
    rw [HZ.out, HV.out]
    have hI2 := (hI1.below hb2).below ((Below.refl _ _).alloc (Nat.le_refl _) (.cells #[.string (keyBy l), .int .i64 t, .int .u64 x] 47))
    have hJ := IBox.new w2 (keyBy l) t x
    have hB2 := (below_then hB1 hb2).alloc (below_then hB1 hb2).size (.cells #[.string (keyBy l), .int .i64 t, .int .u64 x] 47)
    clear x0 x1 x2 hI1 hE1 hE0 hB0 hB1 hR1 hb2
    have j0 := hJ.c0
    have j1 := hJ.c1
    have j2 := hJ.c2
    have f0 := hI2.frozen 0
    have f1 := hI2.frozen 1
    have f2 := hI2.frozen 2
    have f3 := hI2.frozen 3
    have e0 := hI2.c0
    have e1 := hI2.c1
    have e2 := hI2.c2
    have e3 := hI2.c3
    generalize keyBy l = ks at *
    by_cases h1 : most < (ks.size : Int)
    · have HI := Lib.hid (HA.out h1)
      go_wp2
      refine bodyPost_ret (results_cell_row rfl _ _ (w.heap.size + 1) _ _ (0, 0) _ rfl (hI2.put4 _ _ _ _) Try.underlying51 rfl (by kernel_rfl)) rfl ?_
      exact InpOut.mk' HI.out (below_put4 hB2 (by omega) _ _ _ _)
    · have HI := Lib.hid (HB.out (by omega))
      go_wp2
      refine bodyPost_ret (results_cell_row rfl _ _ (w.heap.size + 1) _ _ (0, 0) _ rfl (hI2.put4 _ _ _ _) Try.underlying51 rfl (by kernel_rfl)) rfl ?_
      exact InpOut.mk' HI.out (below_put4 hB2 (by omega) _ _ _ _)
  · have HV := Lib.hid (show itV l t x = .agg #[.string ⟨#[]⟩, .int .i64 0, .int .u64 0] from if_neg hz)
    have HI := Lib.hid (inp_bad (most := most) hz)
    have hv1 : (itE l t x == 0) = false := beq_false_of_ne hz
    have hv2 : (itE l t x != 0) = true := bne_iff_ne.2 hz
    clear hz
    go_enter Try.func48, Try.ntmps48
    go_wp2_with fail
    refine (item_any _ _ _ l _ _ _ hR1 hn).mono ?_
    rintro e w2 ⟨rfl, hb2⟩
    rw [HV.out]
    have hI2 := (hI1.below hb2).below ((Below.refl _ _).alloc (Nat.le_refl _) (.cells #[.string ⟨#[]⟩, .int .i64 0, .int .u64 0] 47))
    have hB2 := (below_then hB1 hb2).alloc (below_then hB1 hb2).size (.cells #[.string ⟨#[]⟩, .int .i64 0, .int .u64 0] 47)
    clear x0 x1 x2 hI1 hE1 hE0 hB0 hB1 hR1 hb2
    have f0 := hI2.frozen 0
    have f1 := hI2.frozen 1
    have f2 := hI2.frozen 2
    have f3 := hI2.frozen 3
    have e0 := hI2.c0
    have e1 := hI2.c1
    have e2 := hI2.c2
    have e3 := hI2.c3
    go_wp2_with fail
    refine (verdict_any _ _).mono ?_
    rintro e w3 ⟨rfl, rfl⟩
    go_wp2
    refine bodyPost_ret (results_cell_row rfl _ _ (w.heap.size + 1) _ _ (0, 0) _ rfl (hI2.put4 _ _ _ _) Try.underlying51 rfl (by kernel_rfl)) rfl ?_
    exact InpOut.mk' HI.out (below_put4 hB2 (by omega) _ _ _ _)

/-- What is read of events: the inputs up to the first that is none, and the bytes from there on. -/
def rdEv (most : Int) : Nat → List Int → List Inp × List Int
  | 0, l => ([], l)
  | n + 1, l => if decE l ≠ 0 then ([], l) else (inp most (decT l) (decM l) (decW l) :: (rdEv most n (decR l)).1, (rdEv most n (decR l)).2)
theorem rdEv_len (most : Int) : ∀ (n : Nat) (l : List Int), (rdEv most n l).1.length ≤ n
  | 0, l => by simp [rdEv]
  | n + 1, l => by
    rw [rdEv]
    split
    · simp
    · have := rdEv_len most n (decR l)
      simp; omega
theorem insN_rd (most : Int) : ∀ (n : Nat) (l : List Int), insN most n l = (rdEv most n l).1 ++ (if (rdEv most n l).1.length < n then List.replicate (n - (rdEv most n l).1.length) badI else if (rdEv most n l).2 = [] then [] else [badI])
  | 0, l => by rw [rdEv, insN]; simp only [List.length_nil, Nat.lt_irrefl, if_false, List.nil_append]
  | n + 1, l => by
    rw [rdEv, insN]
    split
    · simp
    · rw [insN_rd most n (decR l)]
      simp only [List.length_cons, List.cons_append]
      by_cases h : (rdEv most n (decR l)).1.length < n
      · rw [if_pos h, if_pos (show (rdEv most n (decR l)).1.length + 1 < n + 1 by omega), Nat.add_sub_add_right]
      · rw [if_neg h, if_neg (show ¬ (rdEv most n (decR l)).1.length + 1 < n + 1 by omega)]
/-- What stands after k events: acc, and the rest r. -/
def RdK (most : Int) (N : Nat) (l : List Int) (k : Nat) (acc : List Inp) (r : List Int) : Prop := acc.length = k ∧ rdEv most N l = (acc ++ (rdEv most (N - k) r).1, (rdEv most (N - k) r).2)
theorem RdK.zero (most : Int) (N : Nat) (l : List Int) : RdK most N l 0 [] l := ⟨rfl, by simp⟩
theorem RdK.next {most : Int} {N k : Nat} {l r : List Int} {acc : List Inp} (h : RdK most N l k acc r) (hk : k < N) (h0 : decE r = 0) : RdK most N l (k + 1) (acc ++ [inp most (decT r) (decM r) (decW r)]) (decR r) := by
  obtain ⟨h1, h2⟩ := h
  refine ⟨by simp [h1], ?_⟩
  obtain ⟨m, hm⟩ : ∃ m, N - k = m + 1 := ⟨N - k - 1, by omega⟩
  rw [h2, hm, show N - (k + 1) = m by omega, rdEv, if_neg (by simp [h0])]
  simp
theorem RdK.err {most : Int} {N k : Nat} {l r : List Int} {acc : List Inp} (h : RdK most N l k acc r) (hk : k < N) (h0 : decE r ≠ 0) : rdEv most N l = (acc, r) := by
  obtain ⟨h1, h2⟩ := h
  obtain ⟨m, hm⟩ : ∃ m, N - k = m + 1 := ⟨N - k - 1, by omega⟩
  rw [h2, hm, rdEv, if_pos h0]
  simp
theorem RdK.end_ {most : Int} {N : Nat} {l r : List Int} {acc : List Inp} (h : RdK most N l N acc r) : rdEv most N l = (acc, r) := by
  obtain ⟨h1, h2⟩ := h
  rw [h2, Nat.sub_self, rdEv]; simp
/-- What readEvents gives back. -/
def RevOut (p : List Inp × List Int) (w : World) (e : Ending) (w' : World) : Prop :=
  ∃ v A n c, e = .returned (.tuple #[v, .slice A n c]) ∧ OwnN w' w.heap.size v p.1 ∧ Rd w' A n c p.2 ∧ Below w.heap.size w w'
theorem RevOut.mk' {p : List Inp × List Int} {acc : List Inp} {r : List Int} {w w' : World} {v : Value} {A : Option Addr} {n c : Nat} (h : p = (acc, r)) (hO : OwnN w' w.heap.size v acc) (hR : Rd w' A n c r) (hb : Below w.heap.size w w') : RevOut p w (.returned (.tuple #[v, .slice A n c])) w' := by
  subst h; exact ⟨v, A, n, c, rfl, hO, hR, hb⟩
theorem dec_pos {l : List Int} (h : decE l = 0) : 1 ≤ l.length := by
  cases l with
  | nil =>
    exfalso
    have h1 := (dec_parts h).1
    have := numE_zero h1 (by decide)
    have h2 : rdE [] = 0 := this.1
    exact absurd h2 (by decide)
  | cons a r => simp
/-- b[k:], as the model slices. -/
theorem Rd.dropIf {w : World} {b o n c : Nat} {l : List Int} (h : Rd w (some ⟨b, o, none⟩) n c l) {k : Nat} (hk : k ≤ n) : Rd w (if c = k then some ⟨b, o, none⟩ else some ⟨b, o + k, none⟩) (n - k) (c - k) (l.drop k) := by
  by_cases hc : c = k
  · have hcap := h.cap
    have hl := h.len
    rw [if_pos hc, List.drop_eq_nil_of_le (by omega), show n - k = 0 by omega]
    exact Rd.nil _ _ _ (by have := h.max; simp only [maxLen]; omega)
  · rw [if_neg hc]
    exact h.drop hk
set_option maxHeartbeats 2000000 in
theorem readEvents_any (A : Option Addr) (n c : Nat) (l : List Int) (N : Nat) (most : Int) (w : World) (hR : Rd w A n c l) (hN : N ≤ 1000) (hm0 : -9223372036854775808 ≤ most) (hm1 : most ≤ 9223372036854775807) :
    Calls Try.prog 29 #[.slice A n c, .int .i64 (N : Int), .int .i64 most] w (RevOut (rdEv most N l) w) := by
  go_enter Try.func29, Try.ntmps29
  go_wp2
  go_step3
  go_wp2
  go_step3
  go_wp2
  go_loopw [6, 7, 13] (fun v u i W => ∃ (k : Nat) (acc : List Inp) (A1 : Option Addr) (n1 c1 : Nat) (r : List Int), k ≤ N ∧ u = .slice A1 n1 c1 ∧ Rd w A1 n1 c1 r ∧ OwnN W w.heap.size v acc ∧ RdK most N l k acc r ∧ Below w.heap.size w W ∧ i = .int .i64 k) (fun _ _ i _ => N - (intOf i).toNat)
  case atStart => exact ⟨0, [], A, n, c, l, by omega, rfl, hR, OwnN.nil _ _, RdK.zero _ _ _, Below.refl _ _, rfl⟩
  case round =>
    obtain ⟨k, acc, A1, n1, c1, r, hk, rfl, hr, hO, hK, hb, rfl⟩ := hrel
    have hal := hK.1
    by_cases hlt : k < N
    · by_cases he : decE r = 0
      · have HE := Lib.hid he
        have HN := Lib.hid (hK.next hlt he)
        have hl8 := decT_len r hr.bytes
        have hpos := dec_pos he
        have hrl := hr.len
        obtain ⟨b, o, rfl⟩ := hr.some_of (by omega)
        have hdl := decN_le (l := r)
        have HD := Lib.hid (decR_drop he)
        obtain ⟨m, hm⟩ := Int.eq_ofNat_of_zero_le hdl.1
        have hmn : m ≤ n1 := by omega
        have hcap := hr.cap
        have hmx := hr.max
        have hrd := hr.dropIf hmn
        rw [← show (decN r).toNat = m by omega, HD.out, show (decN r).toNat = m by omega] at hrd
        have hmi : (m : Int) ≤ (n1 : Int) := by omega
        have hmc : (m : Int) ≤ (c1 : Int) := by omega
        have hnc : (n1 : Int) ≤ (c1 : Int) := by omega
        clear he hK HD
        go_wp2_with fail
        refine (decode_any _ _ _ r _ (hr.below hb)).mono ?_
        rintro e w2 ⟨A2, n2, c2, rfl, hT2, hb2⟩
        rw [HE.out, hm]
        have hb3 := below_then hb hb2
        have hX := EBox.new w2 A2 n2 c2 (decM r) (decW r)
        have y0 := hX.c0
        have y1 := hX.c1
        have y2 := hX.c2
        have hT3 := hT2.alloc (.cells #[.slice A2 n2 c2, .int .i64 (decM r), .int .u64 (decW r)] 30)
        have hn2 : n2 ≤ 1000 := by have := hT2.len; omega
        have hO3 := (hO.below hb2).alloc (.cells #[.slice A2 n2 c2, .int .i64 (decM r), .int .u64 (decW r)] 30)
        have hb4 := hb3.alloc hb3.size (.cells #[.slice A2 n2 c2, .int .i64 (decM r), .int .u64 (decW r)] 30)
        clear hT2 hb2 hb3 hO hb hm hdl hl8 hX
        go_wp2_with fail
        refine (input_any _ _ _ (decT r) _ _ most _ hT3 hn2 hm0 hm1).mono ?_
        rintro e w4 ⟨rfl, hb5⟩
        obtain ⟨s', t', x', y', hv⟩ : ∃ s' t' x' y', inp most (decT r) (decM r) (decW r) = (s', t', x', y') := ⟨_, _, _, _, rfl⟩
        rw [hv] at HN ⊢
        rw [show inV (s', t', x', y') = .agg #[.string s', .int .i64 t', .int .u64 x', .int .i64 y'] from rfl]
        have hO5 := (hO3.below hb5).alloc (.cells #[.string s', .int .i64 t', .int .u64 x', .int .i64 y'] 51)
        have hb6 := (below_then hb4 hb5).alloc (below_then hb4 hb5).size (.cells #[.string s', .int .i64 t', .int .u64 x', .int .i64 y'] 51)
        have hN5 := RdN.one' (w := w4) s' t' x' y' rfl
        have hz6 := hb6.size
        have hlen : acc.length + 1 ≤ 1000000 := by omega
        clear hv y0 y1 y2 hT3 hO3 hb4 hb5
        go_wp2_with (at_builtin; refine wpList_appN rfl (.tmp 24) (.tmp 28) rfl w.heap.size _ acc rfl _ 1 1 [(s', t', x', y')] rfl hO5 hN5 hlen hz6 ?_; intro v7 w7 hO7 hg7; have hb7 := Below.appN hb6 hO5 hg7 hz6 (Nat.le_refl _))
        clear hO5 hN5 hg7 hb6
        go_roundw
        case rel => exact ⟨k + 1, _, _, _, _, _, by omega, rfl, hrd, hO7, HN.out, hb7, by go_num⟩
        case measure => (simp [intOf] <;> omega)
      · have HE := Lib.hid (hK.err hlt he)
        have hv1 : (decE r == 0) = false := beq_false_of_ne he
        have hv2 : (decE r != 0) = true := bne_iff_ne.2 he
        clear he hK
        go_wp2_with fail
        refine (decode_any _ _ _ r _ (hr.below hb)).mono ?_
        rintro e w2 ⟨A2, n2, c2, rfl, hT2, hb2⟩
        have hO2 := (hO.below hb2).alloc (.cells #[.slice A2 n2 c2, .int .i64 (decM r), .int .u64 (decW r)] 30)
        have hb3 := (below_then hb hb2).alloc (below_then hb hb2).size (.cells #[.slice A2 n2 c2, .int .i64 (decM r), .int .u64 (decW r)] 30)
        have hr2 := hr.below hb3
        clear hT2 hb hb2 hO hr
        go_wp2
        rw [Exit.noGoto_ret]
        go_ret2
        exact RevOut.mk' HE.out hO2 hr2 hb3
    · obtain rfl : k = N := by omega
      have HE := Lib.hid hK.end_
      go_wp2
      go_ret2
      exact RevOut.mk' HE.out hO (hr.below hb) hb

end Go.Proofs.Ytoaijnpkenflbaa
