/- heavykeyslaw06.bytes. Conditions: none beyond those typed. -/
import Derived.Test.YtfihaonpifoekaaSrow
import Derived.Test.YtfihaonpifoekaaFdeck
import Derived.Test.YtfihaonpifoekaaFbody
namespace Go.Proofs.Ytfihaonpifoekaa
open Go.ChangeShapes Go.WideShapes Go.ChangeAt Go.RowKit
set_option linter.unusedVariables false
set_option linter.unusedSimpArgs false
set_option maxRecDepth 100000

theorem Own.lowG {w : World} {bb : Nat} {v : Value} {l : List Int} (h : Own w bb v l) {g : Nat} (hg : g < bb) : v.ownBlock = none ∨ v.ownBlock ≠ some g := .inr fun e => by have := h.lt _ e; omega
/-- Some bytes. -/
def BysOut (w : World) (e : Ending) (w' : World) : Prop := ∃ v l, e = .returned v ∧ Own w' w.heap.size v l ∧ l.length ≤ 30000 ∧ Below w.heap.size w w'
/-- What stands in a round. -/
def BysR (w : World) (B : Option Addr) (m d : Nat) (v : Value) (k : Int) (W : World) : Prop :=
  ∃ l, Own W (w.heap.size + 1) v l ∧ Dk w W w.heap.size B m d ∧ 0 ≤ k ∧ k ≤ 4 ∧ (l.length : Int) ≤ (4 - k) * 6000
theorem Dk.app {B W W' : World} {g n c base : Nat} {A : Option Addr} {v : Value} {l : List Int} (h : Dk B W g A n c) (hO : Own W base v l) (hg : W.grownBy W' v.ownBlock) (hb : g < base) : Dk B W' g A n c :=
  h.far hg fun k e => by have := hO.lt k e; omega
theorem frO_len {L : List Ev} : (frO L).length ≤ 4200 := by
  by_cases h : bdE L = 0
  · have h1 := (bdO_ok h).2
    have h2 := enc_ten (n := (bdB L).length) (by omega)
    unfold frO; rw [if_pos h, List.length_append]; omega
  · unfold frO; rw [if_neg h]; simp
set_option maxHeartbeats 2000000 in
theorem bytes_any (B : Option Addr) (m d : Nat) (w : World) (hB : RdI w B m d) : Calls Try.prog 8 #[.slice B m d] w (BysOut w) := by
  go_enter Try.func8, Try.ntmps8
  go_wp2_with fail
  refine (new_any _ _ _ _).mono ?_
  rintro e w1 ⟨rfl, rfl⟩
  have hD0 := Dk.new hB
  go_wp2_with fail
  refine (next_dk hD0 5 (by omega) (by omega)).mono ?_
  rintro e w2 ⟨r0, hr0, rfl, hD2, hg2⟩
  clear hD0
  go_wp2
  go_loopw [4, 5] (fun v i W => ∃ k : Int, i = .int .i64 k ∧ BysR w B m d v k W) (fun _ i _ => (intOf i).toNat)
  case atStart => exact ⟨r0, rfl, [], Own.nil _ _, hD2, by omega, by omega, by rw [List.length_nil]; omega⟩
  case round =>
    clear hD2 hg2 hr0
    obtain ⟨k, rfl, l, hO, hD, hk0, hk4, hl⟩ := hrel
    by_cases hlt : 0 < k
    · go_wp2_with fail
      refine (next_dk hD 5 (by omega) (by omega)).mono ?_
      rintro e w3 ⟨r, hr, rfl, hD3, hg3⟩
      have O3 := hO.grown hg3 (hO.lowG (by omega))
      clear hO hD hg3
      have hl' : l.length ≤ 24000 := by omega
      by_cases h0 : r = 0
      · subst h0
        go_wp2_with fail
        refine (next_dk hD3 6 (by omega) (by omega)).mono ?_
        rintro e w4 ⟨r4, hr4, rfl, hD4, hg4⟩
        have O4 := O3.grown hg4 (O3.lowG (by omega))
        obtain ⟨A4, n4, c4, rfl, hR4⟩ := O4.form
        have hn4 := hR4.len
        clear hD3 hg4 O3
        go_wp2_with fail
        refine (rappend_own A4 n4 c4 l (r4 : Int) w4 hR4 (by omega) (by omega)).mono ?_
        rintro e w5 ⟨v5, rfl, O5, hb5⟩
        have hD5 := hD4.below hb5
        have hz4 := hD4.lt
        have O5' := O5.weaken (base' := w.heap.size + 1) (by omega)
        have he := enc_ten (n := ((r4 : Int) : Int).toNat) (by omega)
        have hl5 : (l ++ enc ((r4 : Int) : Int).toNat).length ≤ l.length + 10 := by rw [List.length_append]; omega
        clear hD4 O4 O5 hb5 hR4 he
        generalize l ++ enc ((r4 : Int) : Int).toNat = l5 at *
        go_wp2_with fail
        refine (next_dk hD5 6 (by omega) (by omega)).mono ?_
        rintro e w6 ⟨r6, hr6, rfl, hD6, hg6⟩
        have O6 := O5'.grown hg6 (O5'.lowG (by omega))
        have hbz : l5.length + r6 ≤ 140737488355328 := by omega
        have hz6 : w.heap.size + 1 ≤ w6.heap.size := by have := hD6.lt; omega
        clear hD5 hg6 O5'
        go_wp2_with (at_builtin; refine wpList_appZ rfl (.tmp 34) (.tmp 36) rfl (w.heap.size + 1) v5 l5 rfl r6 rfl O6 hbz hz6 ?_; intro v7 w7 O7 G7 _; have hD7 := hD6.app O6 G7 (by omega))
        go_roundw
        case rel => exact ⟨k - 1, by go_num, _, O7, hD7, by omega, by omega, by rw [List.length_append, List.length_replicate]; omega⟩
        case measure => (simp [intOf] <;> omega)
      · by_cases h1 : r = 1
        · subst h1
          go_wp2_with fail
          refine (next_dk hD3 30 (by omega) (by omega)).mono ?_
          rintro e w4 ⟨r4, hr4, rfl, hD4, hg4⟩
          have O4 := O3.grown hg4 (O3.lowG (by omega))
          obtain ⟨A4, n4, c4, rfl, hR4⟩ := O4.form
          have hn4 := hR4.len
          clear hD3 hg4 O3
          go_wp2_with fail
          refine (rappend_own A4 n4 c4 l (4097 + (r4 : Int)) w4 hR4 (by omega) (by omega)).mono ?_
          rintro e w5 ⟨v5, rfl, O5, hb5⟩
          have hD5 := hD4.below hb5
          have hz4 := hD4.lt
          have O5' := O5.weaken (base' := w.heap.size + 1) (by omega)
          have he := enc_ten (n := ((4097 + (r4 : Int)) : Int).toNat) (by omega)
          have hl5 : (l ++ enc ((4097 + (r4 : Int)) : Int).toNat).length ≤ l.length + 10 := by rw [List.length_append]; omega
          clear hD4 O4 O5 hb5 hR4 he
          generalize l ++ enc ((4097 + (r4 : Int)) : Int).toNat = l5 at *
          go_wp2_with fail
          refine (next_dk hD5 5000 (by omega) (by omega)).mono ?_
          rintro e w6 ⟨r6, hr6, rfl, hD6, hg6⟩
          have O6 := O5'.grown hg6 (O5'.lowG (by omega))
          have hbz : l5.length + r6 ≤ 140737488355328 := by omega
          have hz6 : w.heap.size + 1 ≤ w6.heap.size := by have := hD6.lt; omega
          clear hD5 hg6 O5'
          go_wp2_with (at_builtin; refine wpList_appZ rfl (.tmp 45) (.tmp 47) rfl (w.heap.size + 1) v5 l5 rfl r6 rfl O6 hbz hz6 ?_; intro v7 w7 O7 G7 _; have hD7 := hD6.app O6 G7 (by omega))
          go_roundw
          case rel => exact ⟨k - 1, by go_num, _, O7, hD7, by omega, by omega, by rw [List.length_append, List.length_replicate]; omega⟩
          case measure => (simp [intOf] <;> omega)
        · by_cases h2 : r = 2
          · subst h2
            go_wp2_with fail
            refine (next_dk hD3 12 (by omega) (by omega)).mono ?_
            rintro e w4 ⟨r4, hr4, rfl, hD4, hg4⟩
            have O4 := O3.grown hg4 (O3.lowG (by omega))
            clear hD3 hg4 O3
            go_wp2
            go_loopw [4, 6] (fun v i W => ∃ (q : Int) (l' : List Int), i = .int .i64 q ∧ Own W (w.heap.size + 1) v l' ∧ Dk w W w.heap.size B m d ∧ 0 ≤ q ∧ q ≤ 12 ∧ (l'.length : Int) + q ≤ l.length + 12) (fun _ i _ => (intOf i).toNat)
            case atStart => exact ⟨r4, l, rfl, O4, hD4, by omega, by omega, by omega⟩
            case round =>
              clear O4 hD4
              obtain ⟨q, l', rfl, O, D, hq0, hq1, hql⟩ := hrel
              by_cases hq : 0 < q
              · have hz := D.lt
                have L2 := Rd.one wr 5 255 ⟨by omega, by omega⟩
                have BL : Below wr.heap.size wr (wr.alloc (.cells #[.int .u8 255] 5)) := (Below.refl _ _).alloc (Nat.le_refl _) _
                have O2 := O.below BL
                have D2 := D.below BL
                have hb2 : l'.length + 1 ≤ 140737488355328 := by omega
                have hz2 : w.heap.size + 1 ≤ (wr.alloc (.cells #[.int .u8 255] 5)).heap.size := by have := BL.size; omega
                clear O D BL
                go_wp2_with (at_builtin; refine wpList_app rfl (.tmp 57) (.tmp 58) rfl (w.heap.size + 1) u4 l' rfl _ 1 1 [255] rfl O2 L2 hb2 hz2 ?_; intro v7 w7 O7 G7 _; have hD7 := D2.app O2 G7 (by omega))
                go_roundw
                case rel => exact ⟨q - 1, _, by go_num, O7, hD7, by omega, by omega, by rw [List.length_append, List.length_singleton]; omega⟩
                case measure => (simp [intOf] <;> omega)
              · have hq' : q = 0 := by omega
                subst hq'
                go_wp2
                go_roundw
                case rel => exact ⟨k - 1, by go_num, l', O, D, by omega, by omega, by omega⟩
                case measure => (simp [intOf] <;> omega)
          · have e0 : ((r : Int) == 0) = false := beq_false_of_ne (by omega)
            have e1 : ((r : Int) == 1) = false := beq_false_of_ne (by omega)
            have e2 : ((r : Int) == 2) = false := beq_false_of_ne (by omega)
            go_wp2_with fail
            refine (events_any 50 2 hD3 (by omega) (by omega)).mono ?_
            rintro e w4 ⟨A4, n4, c4, L, rfl, hE4, hn1, hn2, hF, hD4, hg4⟩
            have O4 := O3.grown hg4 (O3.lowG (by omega))
            have hW := Lib.hid ((show Wts L from fun e he => (hF e he).2.2.2))
            clear hD3 hg4 O3 hF
            go_wp2_with fail
            refine (rframe_any A4 n4 c4 L w4 hE4 hW.out).mono ?_
            rintro e w5 ⟨A5, n5, c5, rfl, hr5, hb5⟩
            have hln := hr5.len
            have hlf := frO_len (L := L)
            have O5 := O4.below hb5
            have hD5 := hD4.below hb5
            have hb2 : l.length + n5 ≤ 140737488355328 := by omega
            have hz2 : w.heap.size + 1 ≤ w5.heap.size := by have := hD5.lt; omega
            clear hE4 O4 hD4 hb5
            generalize frO L = fr at *
            go_wp2_with (at_builtin; refine wpList_app rfl (.tmp 25) (.tmp 26) rfl (w.heap.size + 1) u4 l rfl A5 n5 c5 fr rfl O5 hr5 hb2 hz2 ?_; intro v7 w7 O7 G7 _; have hD7 := hD5.app O5 G7 (by omega))
            go_roundw
            case rel => exact ⟨k - 1, by go_num, _, O7, hD7, by omega, by omega, by rw [List.length_append]; omega⟩
            case measure => (simp [intOf] <;> omega)
    · have hk : k = 0 := by omega
      subst hk
      go_wp2
      go_ret
      exact ⟨_, l, rfl, hO.weaken (by omega), by omega, hD.low⟩
end Go.Proofs.Ytfihaonpifoekaa
