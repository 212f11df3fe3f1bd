/- heavykeyslaw06.StreamBound returns true, whatever the input. Conditions: none beyond those typed. -/
import Derived.Test.YtfihaonpifoekaaHlaws
namespace Go.Proofs.Ytfihaonpifoekaa
open Go.ChangeShapes Go.WideShapes Go.ChangeAt Go.RowKit
set_option linter.unusedVariables false
set_option linter.unusedSimpArgs false
set_option maxRecDepth 100000

theorem soundB : Sound6 ([], 0, true) := ⟨open_nil, by simp, fun _ => rfl, fun _ => ⟨rfl, rfl⟩⟩
theorem grown_drewN {w w' : World} {row : Option Nat} (h : w.grownBy w' row) (j : Nat) : w.grownBy (w'.drewN j) row := ⟨h.os, h.tape, h.output, h.size, h.block⟩
theorem SBox.putB {B : Nat} {w0 w : World} {g : Nat} {A : Option Addr} {n c : Nat} {k : Int} {br : Bool} (_ : SBox w g A n c k br) (h : Below B w0 w) (hg : B ≤ g) (v0 v1 v2 : Value) :
    Below B w0 (((w.setCell ⟨g, 0, none⟩ v0).setCell ⟨g, 1, none⟩ v1).setCell ⟨g, 2, none⟩ v2) := below_put3 h hg v0 v1 v2
theorem bd00 (w : World) (o : Obj) : Below w.heap.size w (w.alloc o) := (Below.refl _ _).alloc (Nat.le_refl _) o
theorem below_from2 {w w' : World} {o : Obj} (h : Below (w.drew.alloc o).heap.size (w.drew.alloc o) w') : Below w.heap.size w w' := below_from (below_then (bd00 w.drew o) h)
theorem le_alloc (w : World) (o : Obj) : w.heap.size ≤ (w.alloc o).heap.size := by simp
theorem lt_alloc (w : World) (o : Obj) : w.heap.size < (w.alloc o).heap.size := by simp
set_option maxHeartbeats 2000000 in
theorem streamBound_walk (B : Option Addr) (m d : Nat) (A : Option Addr) (k c : Nat) (w : World) (hB : RdI w B m d) (hA : Arg w A k c) :
    Calls Try.prog 7 #[.slice B m d, .slice A k c] w (Yes w) := by
  obtain ⟨hk1, hk2, la, hRa⟩ := hA
  have hB' : RdI w.drew B m d := hB
  obtain ⟨j, hj⟩ : ∃ j : Nat, min (k : Int) 300 = j := ⟨(min (k : Int) 300).toNat, by omega⟩
  have hjk : j ≤ k := by omega
  have hj3 : j ≤ 300 := by omega
  have hjki : (j : Int) ≤ (k : Int) := by omega
  have hjci : (j : Int) ≤ (c : Int) := by omega
  have hRj := hRa.take hjk
  go_enter Try.func7, Try.ntmps7
  go_wp2
  go_region_held3 (fun _ => True) (trivial) (first
    | (go_at_call 8; refine (bytes_any B m d _ (by first | exact hB' | exact hB'.below (bd00 _ _))).mono ?_; rintro e w5 ⟨v5, l5, rfl, O5, hl5, hb5⟩; have hb5' : Below w.heap.size w w5 := (by first | exact below_from hb5 | exact below_from2 hb5); have O5' : Own w5 w.heap.size v5 l5 := O5.weaken (by first | exact Nat.le_refl _ | exact le_alloc _ _); have R5 := hRj.below hb5'; have z5 : w.heap.size ≤ w5.heap.size := hb5'.size; have hlj : l5.length + j ≤ 140737488355328 := (by omega); try (have S5 : SBox w5 w.heap.size none 0 0 0 false := (SBox.new w.drew none 0 0 0 false).below hb5))
    | (refine step_app rfl (.tmp 12) (.tmp 17) rfl _ v5 l5 rfl A j c (la.take j) rfl (by first | exact O5' | exact O5'.alloc _) (by first | exact R5 | exact R5.alloc _) hlj (by first | exact z5 | exact Nat.le_trans z5 (le_alloc _ _)) ?_; intro v6 w6 O6 G6 _; obtain ⟨A6, n6, c6, e6, r6⟩ := O6.form; subst e6; have hn6 := r6.len; have hb6 : Below w.heap.size w w6 := (by first | exact Below.app hb5' O5' G6 z5 (Nat.le_refl _) | exact Below.app (hb5'.alloc z5 _) (O5'.alloc _) G6 (Nat.le_trans z5 (le_alloc _ _)) (Nat.le_refl _)); (try (have S6 := S5.farG G6 (fun q e => Nat.ne_of_gt (Nat.lt_of_lt_of_le (lt_alloc w.drew _) (O5.lt q e).1)))); (try (have S6 := (SBox.new w5 none 0 0 0 false).farG G6 (fun q e => by have h1 := O5'.lt q e; omega))))
    | (go_at_call 9; refine (feed_any none 0 0 st0 A6 n6 c6 (l5 ++ la.take j) _ sound0 (Rd.nil _ _ _ (by simp [maxLen])) (by first | exact r6 | exact r6.alloc _) (fun _ => by rw [← hn6, List.length_append, List.length_take]; omega)).mono ?_; intro e w7 h7; have hfl := feed_len sound0 r6.bytes; obtain ⟨pq, hpq⟩ : ∃ pq, pq = feed st0 (l5 ++ la.take j) := ⟨_, rfl⟩; rw [← hpq] at h7 hfl; clear hpq; obtain ⟨⟨bq, kq, brq⟩, Cq⟩ := pq; obtain ⟨A7, n7, c7, C7, m7, d7, e7, r7, q7, b7⟩ := h7.rdC; subst e7; have hn7 := r7.len; have b8 : Below w.heap.size w w7 := (by first | exact below_then hb6 b7 | exact below_then (hb6.alloc hb6.size _) b7); (try (have S7 := S6.below b7; have y0 := S7.c0; have y1 := S7.c1; have y2 := S7.c2; have f0 := S7.frozen 0; have f1 := S7.frozen 1; have f2 := S7.frozen 2)); (try (have S7 := (SBox.new w6 none 0 0 0 false).below b7; have y0 := S7.c0; have y1 := S7.c1; have y2 := S7.c2; have f0 := S7.frozen 0; have f1 := S7.frozen 1; have f2 := S7.frozen 2))))
  all_goals
    first
      | (have hT := S7.put3 A7 n7 c7 kq brq
         have hbT := S7.putB b8 (by first | exact Nat.le_refl _ | exact z5 | exact hb6.size) (.slice A7 n7 c7) (.int .u64 kq) (.bool brq))
      | (have hT := SBox.new w7 A7 n7 c7 kq brq
         have hbT := b8.alloc b8.size (.cells #[.slice A7 n7 c7, .int .u64 kq, .bool brq] 29))
    have hA9 := hRa.below hbT
    go_wp2_with fail
    refine (feed_any none 0 0 ([], 0, true) A k c la _ soundB (Rd.nil _ _ _ (by simp [maxLen])) hA9 (fun h => by cases h)).mono ?_
    intro e w9 h9
    rw [feed_broken la ([], 0, true) rfl] at h9
    obtain ⟨A9, n9, c9, C9, m9, d9, e9, r9, q9, b9⟩ := h9.rdC
    subst e9
    have hn9 := r9.len
    have hm9 := q9.len
    simp only [List.length_nil] at hn9 hm9
    subst hn9 hm9
    have T9 := hT.below b9
    have b10 := below_then hbT b9
    have x0 := T9.c0
    have hlt := T9.lt
    have hn7' : (n7 : Int) ≤ 4098 := by omega
    clear h9 q9 b9 r9 hT hbT hA9 h7 b7 b8 q7 r7 O6 G6 r6 hb6 R5 O5' O5 hb5 hb5'
    go_wp2_with fail
    refine (awake_any _).mono ?_
    rintro e w11 ⟨rfl, hb11⟩
    have b12 : Below w.heap.size w w11 := below_then (b10.alloc b10.size _) hb11
    go_wp2
    go_ret
    exact ⟨rfl, b12⟩
end Go.Proofs.Ytfihaonpifoekaa
