/- The walk of the law VarintRead: it returns true, whatever comes in. Conditions: the arguments read as data within the row's reach. -/
import Derived.Test.YtellnmoopecfdaaVunique
namespace Go.Proofs.Ytellnmoopecfdaa
open Go.ChangeShapes Go.WideShapes Go.ChangeAt Go.RowKit
set_option linter.unusedVariables false

theorem three_cell (w : World) (t : TypeId) (a b c : Value) :
    (w.alloc (.cells #[a, b, c] t)).cell? ⟨w.heap.size, 0, none⟩ = some a ∧ (w.alloc (.cells #[a, b, c] t)).cell? ⟨w.heap.size, 1, none⟩ = some b ∧ (w.alloc (.cells #[a, b, c] t)).cell? ⟨w.heap.size, 2, none⟩ = some c := by
  refine ⟨?_, ?_, ?_⟩ <;> exact (cell_of_row _ w.heap.size _ #[a, b, c] t (0, 0) (heap_alloc_new w _)).trans rfl

set_option maxHeartbeats 2000000 in
theorem varintRead_walk (A : Option Addr) (k c : Nat) (s t : Int) (w : World) (h : Arg w A k c) (hs : 0 ≤ s ∧ s ≤ 255) (ht : 0 ≤ t ∧ t ≤ 255) :
    Calls Try.prog 4 #[.slice A k c, .int .u8 s, .int .u8 t] w (Yes w) := by
  obtain ⟨hcap, hmx, l, h⟩ := h
  obtain ⟨hs0, hs1⟩ := hs
  obtain ⟨ht0, ht1⟩ := ht
  by_cases hk : 100 < k
  · go_enter Try.func4, Try.ntmps4
    go_wp2_with fail
    refine (awake_any _).mono ?_
    rintro e w' ⟨rfl, hb⟩
    go_wp2
    go_ret
    exact ⟨rfl, hb⟩
  · have hk' : k ≤ 100 := by omega
    clear hk
    obtain ⟨q, hq⟩ : ∃ q : Nat, s % 14 = (q : Int) := ⟨(s % 14).toNat, by omega⟩
    have hq14 : q ≤ 13 := by omega
    go_enter Try.func4, Try.ntmps4
    go_wp2_with (at_builtin; refine wpList_app rfl _ _ rfl w.heap.size _ [] rfl A k c _ rfl (Own.empty w) (h.alloc _) ?_ ?_ ?_)
    · simp; omega
    · simp
    · intro v2 w2 hO2 hg2 _
      have hb2 := Below.app ((Below.refl _ _).alloc (Nat.le_refl _) _) (Own.empty w) hg2 (by simp) (Nat.le_refl _)
      obtain ⟨A2, n2, c2, rfl, hr2⟩ := hO2.form
      have hc2 := hr2.cap
      have hx2 := hr2.max
      have hn2 : n2 ≤ 100 := by have := hr2.len; have := h.len; simp at *; omega
      clear hr2 hg2
      go_wp2
      go_loopw [8] (fun i wr => ∃ (j : Nat) (L : List Int), j ≤ n2 ∧ i = .int .i64 j ∧ Own wr w.heap.size (.slice A2 n2 c2) L ∧ Below w.heap.size w wr) (fun i _ => n2 - (intOf i).toNat)
      case atStart => exact ⟨0, _, Nat.zero_le _, rfl, hO2, hb2⟩
      case round =>
        obtain ⟨j, L, hj, rfl, hO, hb⟩ := hrel
        by_cases hlt : j < n2
        · by_cases hh : j < q
          · obtain ⟨g, rfl, hg, hgl⟩ := hO.head (by omega)
            obtain ⟨b, o, z, hA, hz, h0, h1, hbl, hc⟩ := hO.reads.at_ hlt
            simp only [Option.some.injEq, Addr.mk.injEq, and_true] at hA
            obtain ⟨rfl, rfl⟩ := hA
            have hf := hO.free j
            rw [Nat.zero_add] at hc
            go_wp2
            go_roundw
            case rel => exact ⟨j + 1, _, by omega, by go_num, hO.store j (or128_bd z), hb.setCell hg _⟩
            case measure => (simp [intOf] <;> omega)
          · have hh' : q ≤ j := by omega
            clear hh
            have hR := hO.reads
            have hp : q ≤ n2 := by omega
            go_wp2_with (at_builtin; refine wpList_app rfl (.tmp 44) (.tmp 52) rfl wr.heap.size _ [] rfl A2 q c2 (L.take q) rfl (Own.empty wr) ((hR.take hp).alloc _) ?_ ?_ ?_)
            · simp; omega
            · simp
            · intro v5 w5 hO5 hg5 _
              have hbr5 := Below.app ((Below.refl _ _).alloc (Nat.le_refl _) _) (Own.empty wr) hg5 (by simp) (Nat.le_refl _)
              have hs5 := hbr5.size
              have hl5 : (L.take q).length ≤ 100 := by rw [List.length_take]; have := hR.len; omega
              clear hg5
              go_wp2_with (at_builtin; refine wpList_app rfl (.tmp 53) (.tmp 55) rfl wr.heap.size v5 _ rfl _ 1 1 [t] rfl (hO5.alloc _) (Rd.one _ _ t ⟨ht0, ht1⟩) ?_ ?_ ?_)
              · simp; omega
              · simp; omega
              · intro v6 w6 hO6 hg6 _
                have hbr6 := Below.app (hbr5.alloc hbr5.size _) (hO5.alloc _) hg6 (by simp; omega) (Nat.le_refl _)
                have hB6 := hb.trans (hbr6.mono hb.size)
                have h6 := h.below hB6
                have hR6 := hR.below hbr6
                obtain ⟨A6, n6, c6, rfl, hr6⟩ := hO6.form
                clear hg6 hO5 hO6 hbr5 hbr6 hs5 hl5
                go_wp2
                have x0 := three_cell w6 22 (.slice A k c) (.slice A2 n2 c2) (.slice A6 n6 c6)
                have y1 := h6.alloc (.cells #[.slice A k c, .slice A2 n2 c2, .slice A6 n6 c6] 22)
                have y2 := hR6.alloc (.cells #[.slice A k c, .slice A2 n2 c2, .slice A6 n6 c6] 22)
                have y3 := hr6.alloc (.cells #[.slice A k c, .slice A2 n2 c2, .slice A6 n6 c6] 22)
                have hB7 := hB6.alloc hB6.size (.cells #[.slice A k c, .slice A2 n2 c2, .slice A6 n6 c6] 22)
                clear h h6 hR6 hr6 hB6 hR hO hb hO2 hb2
                generalize w6.alloc (.cells #[.slice A k c, .slice A2 n2 c2, .slice A6 n6 c6] 22) = w7 at *
                obtain ⟨x0, x1, x2⟩ := x0
                go_loop [62] (fun i => ∃ r : Nat, r ≤ 3 ∧ i = .int .i64 r) (fun i => 3 - (intOf i).toNat)
                case atStart => exact ⟨0, by omega, rfl⟩
                case round =>
                  obtain ⟨r, hr, rfl⟩ := hrel
                  rcases (show r = 0 ∨ r = 1 ∨ r = 2 ∨ r = 3 by omega) with rfl | rfl | rfl | rfl
                  · go_wp2_with fail
                    refine (read_any _ _ _ _ _ y1).mono ?_
                    rintro e w' ⟨rfl, rfl⟩
                    go_wp2_with fail
                    refine (rread_any _ _ _ _ _ y1).mono ?_
                    rintro e w' ⟨rfl, rfl⟩
                    go_wp2
                    go_round
                    case rel => exact ⟨1, by omega, rfl⟩
                    case measure => (simp [intOf] <;> omega)
                  · go_wp2_with fail
                    refine (read_any _ _ _ _ _ y2).mono ?_
                    rintro e w' ⟨rfl, rfl⟩
                    go_wp2_with fail
                    refine (rread_any _ _ _ _ _ y2).mono ?_
                    rintro e w' ⟨rfl, rfl⟩
                    go_wp2
                    go_round
                    case rel => exact ⟨2, by omega, rfl⟩
                    case measure => (simp [intOf] <;> omega)
                  · go_wp2_with fail
                    refine (read_any _ _ _ _ _ y3).mono ?_
                    rintro e w' ⟨rfl, rfl⟩
                    go_wp2_with fail
                    refine (rread_any _ _ _ _ _ y3).mono ?_
                    rintro e w' ⟨rfl, rfl⟩
                    go_wp2
                    go_round
                    case rel => exact ⟨3, by omega, rfl⟩
                    case measure => (simp [intOf] <;> omega)
                  · go_wp2_with fail
                    refine (awake_any _).mono ?_
                    rintro e w8 ⟨rfl, hb8⟩
                    have hB8 := hB7.trans (hb8.mono hB7.size)
                    go_wp2
                    go_ret
                    exact ⟨rfl, hB8⟩
        · have hlt' : n2 ≤ j := by omega
          clear hlt
          have hR := hO.reads
          by_cases hpl : q < n2
          · have hp : q ≤ n2 := Nat.le_of_lt hpl
            go_wp2_with (at_builtin; refine wpList_app rfl (.tmp 44) (.tmp 52) rfl wr.heap.size _ [] rfl A2 q c2 (L.take q) rfl (Own.empty wr) ((hR.take hp).alloc _) ?_ ?_ ?_)
            · simp; omega
            · simp
            · intro v5 w5 hO5 hg5 _
              have hbr5 := Below.app ((Below.refl _ _).alloc (Nat.le_refl _) _) (Own.empty wr) hg5 (by simp) (Nat.le_refl _)
              have hs5 := hbr5.size
              have hl5 : (L.take q).length ≤ 100 := by rw [List.length_take]; have := hR.len; omega
              clear hg5
              go_wp2_with (at_builtin; refine wpList_app rfl (.tmp 53) (.tmp 55) rfl wr.heap.size v5 _ rfl _ 1 1 [t] rfl (hO5.alloc _) (Rd.one _ _ t ⟨ht0, ht1⟩) ?_ ?_ ?_)
              · simp; omega
              · simp; omega
              · intro v6 w6 hO6 hg6 _
                have hbr6 := Below.app (hbr5.alloc hbr5.size _) (hO5.alloc _) hg6 (by simp; omega) (Nat.le_refl _)
                have hB6 := hb.trans (hbr6.mono hb.size)
                have h6 := h.below hB6
                have hR6 := hR.below hbr6
                obtain ⟨A6, n6, c6, rfl, hr6⟩ := hO6.form
                clear hg6 hO5 hO6 hbr5 hbr6 hs5 hl5
                go_wp2
                have x0 := three_cell w6 22 (.slice A k c) (.slice A2 n2 c2) (.slice A6 n6 c6)
                have y1 := h6.alloc (.cells #[.slice A k c, .slice A2 n2 c2, .slice A6 n6 c6] 22)
                have y2 := hR6.alloc (.cells #[.slice A k c, .slice A2 n2 c2, .slice A6 n6 c6] 22)
                have y3 := hr6.alloc (.cells #[.slice A k c, .slice A2 n2 c2, .slice A6 n6 c6] 22)
                have hB7 := hB6.alloc hB6.size (.cells #[.slice A k c, .slice A2 n2 c2, .slice A6 n6 c6] 22)
                clear h h6 hR6 hr6 hB6 hR hO hb hO2 hb2
                generalize w6.alloc (.cells #[.slice A k c, .slice A2 n2 c2, .slice A6 n6 c6] 22) = w7 at *
                obtain ⟨x0, x1, x2⟩ := x0
                go_loop [62] (fun i => ∃ r : Nat, r ≤ 3 ∧ i = .int .i64 r) (fun i => 3 - (intOf i).toNat)
                case atStart => exact ⟨0, by omega, rfl⟩
                case round =>
                  obtain ⟨r, hr, rfl⟩ := hrel
                  rcases (show r = 0 ∨ r = 1 ∨ r = 2 ∨ r = 3 by omega) with rfl | rfl | rfl | rfl
                  · go_wp2_with fail
                    refine (read_any _ _ _ _ _ y1).mono ?_
                    rintro e w' ⟨rfl, rfl⟩
                    go_wp2_with fail
                    refine (rread_any _ _ _ _ _ y1).mono ?_
                    rintro e w' ⟨rfl, rfl⟩
                    go_wp2
                    go_round
                    case rel => exact ⟨1, by omega, rfl⟩
                    case measure => (simp [intOf] <;> omega)
                  · go_wp2_with fail
                    refine (read_any _ _ _ _ _ y2).mono ?_
                    rintro e w' ⟨rfl, rfl⟩
                    go_wp2_with fail
                    refine (rread_any _ _ _ _ _ y2).mono ?_
                    rintro e w' ⟨rfl, rfl⟩
                    go_wp2
                    go_round
                    case rel => exact ⟨2, by omega, rfl⟩
                    case measure => (simp [intOf] <;> omega)
                  · go_wp2_with fail
                    refine (read_any _ _ _ _ _ y3).mono ?_
                    rintro e w' ⟨rfl, rfl⟩
                    go_wp2_with fail
                    refine (rread_any _ _ _ _ _ y3).mono ?_
                    rintro e w' ⟨rfl, rfl⟩
                    go_wp2
                    go_round
                    case rel => exact ⟨3, by omega, rfl⟩
                    case measure => (simp [intOf] <;> omega)
                  · go_wp2_with fail
                    refine (awake_any _).mono ?_
                    rintro e w8 ⟨rfl, hb8⟩
                    have hB8 := hB7.trans (hb8.mono hB7.size)
                    go_wp2
                    go_ret
                    exact ⟨rfl, hB8⟩
          · have hqn : n2 ≤ q := by omega
            clear hpl
            have hp : n2 ≤ n2 := Nat.le_refl _
            go_wp2_with (at_builtin; refine wpList_app rfl (.tmp 44) (.tmp 52) rfl wr.heap.size _ [] rfl A2 n2 c2 (L.take n2) rfl (Own.empty wr) ((hR.take hp).alloc _) ?_ ?_ ?_)
            · simp; omega
            · simp
            · intro v5 w5 hO5 hg5 _
              have hbr5 := Below.app ((Below.refl _ _).alloc (Nat.le_refl _) _) (Own.empty wr) hg5 (by simp) (Nat.le_refl _)
              have hs5 := hbr5.size
              have hl5 : (L.take n2).length ≤ 100 := by rw [List.length_take]; have := hR.len; omega
              clear hg5
              go_wp2_with (at_builtin; refine wpList_app rfl (.tmp 53) (.tmp 55) rfl wr.heap.size v5 _ rfl _ 1 1 [t] rfl (hO5.alloc _) (Rd.one _ _ t ⟨ht0, ht1⟩) ?_ ?_ ?_)
              · simp; omega
              · simp; omega
              · intro v6 w6 hO6 hg6 _
                have hbr6 := Below.app (hbr5.alloc hbr5.size _) (hO5.alloc _) hg6 (by simp; omega) (Nat.le_refl _)
                have hB6 := hb.trans (hbr6.mono hb.size)
                have h6 := h.below hB6
                have hR6 := hR.below hbr6
                obtain ⟨A6, n6, c6, rfl, hr6⟩ := hO6.form
                clear hg6 hO5 hO6 hbr5 hbr6 hs5 hl5
                go_wp2
                have x0 := three_cell w6 22 (.slice A k c) (.slice A2 n2 c2) (.slice A6 n6 c6)
                have y1 := h6.alloc (.cells #[.slice A k c, .slice A2 n2 c2, .slice A6 n6 c6] 22)
                have y2 := hR6.alloc (.cells #[.slice A k c, .slice A2 n2 c2, .slice A6 n6 c6] 22)
                have y3 := hr6.alloc (.cells #[.slice A k c, .slice A2 n2 c2, .slice A6 n6 c6] 22)
                have hB7 := hB6.alloc hB6.size (.cells #[.slice A k c, .slice A2 n2 c2, .slice A6 n6 c6] 22)
                clear h h6 hR6 hr6 hB6 hR hO hb hO2 hb2
                generalize w6.alloc (.cells #[.slice A k c, .slice A2 n2 c2, .slice A6 n6 c6] 22) = w7 at *
                obtain ⟨x0, x1, x2⟩ := x0
                go_loop [62] (fun i => ∃ r : Nat, r ≤ 3 ∧ i = .int .i64 r) (fun i => 3 - (intOf i).toNat)
                case atStart => exact ⟨0, by omega, rfl⟩
                case round =>
                  obtain ⟨r, hr, rfl⟩ := hrel
                  rcases (show r = 0 ∨ r = 1 ∨ r = 2 ∨ r = 3 by omega) with rfl | rfl | rfl | rfl
                  · go_wp2_with fail
                    refine (read_any _ _ _ _ _ y1).mono ?_
                    rintro e w' ⟨rfl, rfl⟩
                    go_wp2_with fail
                    refine (rread_any _ _ _ _ _ y1).mono ?_
                    rintro e w' ⟨rfl, rfl⟩
                    go_wp2
                    go_round
                    case rel => exact ⟨1, by omega, rfl⟩
                    case measure => (simp [intOf] <;> omega)
                  · go_wp2_with fail
                    refine (read_any _ _ _ _ _ y2).mono ?_
                    rintro e w' ⟨rfl, rfl⟩
                    go_wp2_with fail
                    refine (rread_any _ _ _ _ _ y2).mono ?_
                    rintro e w' ⟨rfl, rfl⟩
                    go_wp2
                    go_round
                    case rel => exact ⟨2, by omega, rfl⟩
                    case measure => (simp [intOf] <;> omega)
                  · go_wp2_with fail
                    refine (read_any _ _ _ _ _ y3).mono ?_
                    rintro e w' ⟨rfl, rfl⟩
                    go_wp2_with fail
                    refine (rread_any _ _ _ _ _ y3).mono ?_
                    rintro e w' ⟨rfl, rfl⟩
                    go_wp2
                    go_round
                    case rel => exact ⟨3, by omega, rfl⟩
                    case measure => (simp [intOf] <;> omega)
                  · go_wp2_with fail
                    refine (awake_any _).mono ?_
                    rintro e w8 ⟨rfl, hb8⟩
                    have hB8 := hB7.trans (hb8.mono hB7.size)
                    go_wp2
                    go_ret
                    exact ⟨rfl, hB8⟩
end Go.Proofs.Ytellnmoopecfdaa
